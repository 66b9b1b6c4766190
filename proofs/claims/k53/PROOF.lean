import PyProof.Rows.All
import PyProof.StrReplace2
import PyProof.Rows.TupDisplay
import PyProof.SliceList
import Wide.All
import OpenK.AllK
import Wide.FinOn
import Lean
import PyProof.EqAt
import PyProof.EqKinds
import PyProof.TupleCall
import PyProof.ListMulRoad
import PyProof.Lay0
import PyProof.Rows.EqDataRows
import PyProof.ReprRoads
import PyProof.Rows.MinMaxN
import PyProof.ReprLen
import PyProof.FitsInt
import PyProof.MinMaxWalk
import KE.KRevSl
import KE.KRevIter
import PyProof.ListRange
import PyProof.Sched
import PyProof.Rows.SortShellK
import PyProof.Rows.SortRunK
import PyProof.Rows.SortRuns
import PyProof.TupleOfSeq
import PyProof.RulesAs
import OpenK.KDescr
import OpenK.KOwn
import KE.KIsNot
import KE.KIsAll
import PyProof.Rows.SetFrom
import PyProof.WalksMore
import PyProof.CollectWalk
import KE.KLam
import KE.KMinKey
import KE.KSortKey
import KE.KDictList
import KE.KDictOf
import PyProof.Rows.Range3
import PyProof.FactsAll.range
import PyProof.Rows.StrLen
import PyProof.Rows.StrCase
import PyProof.StrBlock2
import PyProof.Rows.StrRules
import PyProof.Rows.RegReprOcc
import PyProof.AttrMissSeq
import PyProof.DictWalks
import KE.KEqDict
import PyProof.ExcInit
import PyProof.ExcClass3
import PyProof.InstStoreFacts
import PySem.Challenge.RW_knockpurse_k53_roads_in_other_orders
set_option Elab.async false
set_option linter.all false
set_option maxRecDepth 100000
namespace L2
open PySem PySem.Spec PyProof.Rows
abbrev Key:=Sum Int Str
def zd4:Key->Value->Bool
 |.inl k,v=>Value.isInt k v
 |.inr x,v=>Value.isStrOf x v
def zvx(w:World):Key->Int
 |.inl k=>hashInt k
 |.inr x=>hashStr w x
theorem xx:∀{k:Key}{v:Value},zd4 k v=true->(∃i t,k=Sum.inl i/\v=Value.int i t)\/(∃x t,k=Sum.inr x/\v=Value.str x t)
 |.inl i,v,h=>by
  obtain⟨t,e⟩:=Value.isInt_shape (k:=i) (v:=v) h;exact .inl ⟨i,t,rfl,e⟩
 |.inr x,v,h=>by
  obtain⟨t,e⟩:=Value.isStrOf_shape (x:=x) (v:=v) h;exact .inr ⟨x,t,rfl,e⟩
theorem zkt(i:Int)(t:Tok):zd4 (.inl i) (.int i t)=true:=by simp[zd4,Value.isInt]
theorem zku(x:Str)(t:Tok):zd4 (.inr x) (.str x t)=true:=by simp[zd4,Value.isStrOf]
theorem zr7(a b:Int):decide ((Sum.inl a:Key)=Sum.inl b)=(a == b):=by
 by_cases e:a=b
 ·subst e;simp
 ·have h:¬ (Sum.inl a:Key)=Sum.inl b:=λq=>e (Sum.inl.inj q);rw[decide_eq_false h];exact(beq_eq_false_iff_ne.mpr e).symm
theorem zr8(a b:Str):decide ((Sum.inr a:Key)=Sum.inr b)=decide (a=b):=by
 by_cases e:a=b
 ·subst e;simp
 ·have h:¬ (Sum.inr a:Key)=Sum.inr b:=λq=>e (Sum.inr.inj q);rw[decide_eq_false h,decide_eq_false e]
theorem zsa(a:Int)(b:Str):decide ((Sum.inl a:Key)=Sum.inr b)=false:=decide_eq_false (λq=>nomatch q)
theorem zsb(a:Str)(b:Int):decide ((Sum.inr a:Key)=Sum.inl b)=false:=decide_eq_false (λq=>nomatch q)
def vk(prog:Program)(w:World):PySem.KeyKind prog w Key where
 is:=zd4
 hash:=zvx w
 inj:=λv a b ha hb=>by
  rcases xx ha with⟨i,t,rfl,rfl⟩ |⟨x,t,rfl,rfl⟩
  ·rcases xx hb with⟨j,u,rfl,e⟩ |⟨y,u,rfl,e⟩
   ·injection e with e1 _;rw[e1]
   ·exact nomatch e
  ·rcases xx hb with⟨j,u,rfl,e⟩ |⟨y,u,rfl,e⟩
   ·exact nomatch e
   ·injection e with e1 _;rw[e1]
 byValue:=λk v h=>by
  rcases xx h with⟨i,t,rfl,rfl⟩ |⟨x,t,rfl,rfl⟩ <;> rfl
 pyHash:=λhv h=>by
  rcases xx hv with⟨i,t,rfl,rfl⟩ |⟨x,t,rfl,rfl⟩
  ·exact wpAny_pyHash_int h
  ·exact wpAny_pyHash_str h
 eqBool:=λhu hv h=>by
  rcases xx hu with⟨i,t,rfl,rfl⟩ |⟨x,t,rfl,rfl⟩
  ·rcases xx hv with⟨j,u,rfl,rfl⟩ |⟨y,u,rfl,rfl⟩
   ·rw[zr7]at h;exact wpAny_eqBool_int h
   ·rw[zsa]at h;exact SeqAt.EqAt.int_str i t y u _ _ _ _ h
  ·rcases xx hv with⟨j,u,rfl,rfl⟩ |⟨y,u,rfl,rfl⟩
   ·rw[zsb]at h;exact SeqAt.EqAt.str_int x t j u _ _ _ _ h
   ·rw[zr8]at h;exact wpAny_eqBool_str h
 «strs»:=λk x t v h=>by
  rcases xx h with⟨i,u,rfl,e⟩ |⟨y,u,rfl,e⟩
  ·exact nomatch e
  ·injection e with e1 _
   subst e1
   cases v <;> rfl
theorem zf5(prog:Program)(w:World)(i:Int)(t:Tok):(vk prog w).is (.inl i) (.int i t)=true:=zkt i t
theorem zf6(prog:Program)(w:World)(x:Str)(t:Tok):(vk prog w).is (.inr x) (.str x t)=true:=zku x t
inductive V where
 |non|bl (b:Bool)|int (i:Int)|str (x:Str)|byt (b:Array UInt8)|flt (b:UInt64)|ref (a:Addr)|ty (n:String)
 deriving DecidableEq
def RelV:V->Value->Prop
 |.non,u=>u=Value.none
 |.bl b,u=>u=Value.bool b
 |.int i,u=>∃t,u=Value.int i t
 |.str x,u=>∃t,u=Value.str x t
 |.byt b,u=>∃t,u=Value.bytes b t
 |.flt b,u=>∃t,u=Value.float b t
 |.ref a,u=>u=Value.ref a
 |.ty n,u=>u=Value.type n
abbrev Vals:List V->List Value->Prop:=Paired RelV
theorem Vals.length{xs:List V}{us:List Value}(r:Vals xs us):xs.length=us.length:=Paired.length r
theorem Vals.get:∀{xs:List V}{us:List Value}{i:Nat}{x:V},Vals xs us->xs[i]?=some x->∃u,us[i]?=some u/\RelV x u
 |_,_,_,_,.nil,e=>by simp at e
 |_,_,0,_,.cons r _,e=>by simp at e;subst e;exact⟨_,rfl,r⟩
 |_,_,i+1,x,.cons _ t,e=>by
  obtain⟨u,h1,h2⟩:=Vals.get (i:=i) (x:=x) t (by simpa using e);exact⟨u,by simpa using h1,h2⟩
theorem Vals.set{x:V}{u:Value}(r:RelV x u):∀{xs:List V}{us:List Value} (i:Nat),Vals xs us->Vals (xs.set i x) (us.set i u)
 |_,_,_,.nil=>.nil
 |_,_,0,.cons _ t=>.cons r t
 |_,_,i+1,.cons q t=>.cons q (Vals.set r i t)
theorem Vals.append:∀{xs ys:List V}{us ws:List Value},Vals xs us->Vals ys ws->Vals (xs++ys) (us++ws)
 |_,_,_,_,.nil,s=>s
 |_,_,_,_,.cons r t,s=>.cons r (Vals.append t s)
theorem Vals.take:∀{xs:List V}{us:List Value} (n:Nat),Vals xs us->Vals (xs.take n) (us.take n)
 |_,_,0,_=>.nil
 |_,_,_+1,.nil=>.nil
 |_,_,n+1,.cons r t=>.cons r (Vals.take n t)
theorem Vals.drop:∀{xs:List V}{us:List Value} (n:Nat),Vals xs us->Vals (xs.drop n) (us.drop n)
 |_,_,0,r=>r
 |_,_,_+1,.nil=>.nil
 |_,_,n+1,.cons _ t=>Vals.drop n t
def zpf:Option V->Option Value->Prop
 |some v,some u=>RelV v u
 |none,none=>True
 |_,_=>False
def KV{κ:Type}:List (κ×V)->List (κ×Value)->Prop:=Paired λ(p:κ×V) (q:κ×Value)=>p.1=q.1/\RelV p.2 q.2
def kV:Key->V
 |.inl i=>.int i
 |.inr x=>.str x
inductive HO where
  |lst (xs:List V)
  |tup (xs:List V)
  |dK (kvs:List (Key×V))|dT (kvs:List (List Key×V))
  |set (S:Int->Bool) (n:Nat)
  |ins (C dx:Addr) (fs:List (Str×V))
  |own (x:Addr)
  |xd (fs:List (Str×V))
  |met (f x:Addr)
  |rng (lo hi:Int)
  |frz (o:Obj) (u:HO)
  |tbl (ps:Array Value)
  |ext (φ:Heap->Prop)
abbrev Hp:=Addr->Option HO
def upd(H:Hp)(a:Addr)(o:HO):Hp:=λb=>if b=a then some o else H b
theorem zj{H:Hp}{a:Addr}{o:HO}:upd H a o a=some o:=by unfold upd;rw[if_pos rfl]
theorem zn{H:Hp}{a b:Addr}{o:HO}(h:b≠a):upd H a o b=H b:=by unfold upd;rw[if_neg h]
theorem z9{H:Hp}{a b:Addr}{o:HO}(h:H a=some o)(h':H b=none):a≠b:=by
 intro e;subst e;rw[h]at h';cases h'
def TupD(h:Heap)(a:Addr)(items:Array Value):Prop:=∃o,h.get? a=some o/\o.cls=.type "tuple" /\(∃n,o.data=.seq items n)/\o.dict=none
theorem TupD.isTup{h:Heap}{a:Addr}{items:Array Value}(x:TupD h a items):IsTup h a items:=let ⟨o,e,c,d,_⟩:=x;⟨o,e,c,d⟩
theorem TupD.lt{h:Heap}{a:Addr}{items:Array Value}(x:TupD h a items):a<h.objs.size:=x.isTup.lt
theorem TupD.new(h:Heap)(items:Array Value):TupD (h.push { cls:=.type "tuple",data:=.seq items }) h.objs.size items:=⟨_,Heap.get?_push_size _ rfl,rfl,⟨_,rfl⟩,rfl⟩
def zjf(oc:Obj)(q:Str):Prop:=∃vs t,oc.data=.fields vs/\vs[1]?=some (.str q t)
def zf7(H:Hp)(h:Heap)(a:Addr)(lab:Array Value):Prop:=∃(ps:Array Value) (q:Str) (t:Tok),lab = #[.str q t]/\h.get? a=some { cls:=.none,data:=.fields ps }/\TriplesOk ps.toList /\
 ∀pos cv,codeAmong pos ps.toList=some cv->∃c' oc u,cv=.ref c'/\H c'=some (.frz oc u)/\zjf oc q
section
variable (P:Program)(w:World)
def ObjOk(H:Hp)(h:Heap)(a:Addr):HO->Prop
 |.lst xs=>xs.length<=sizeLine/\∃(its:List Value) (n:Nat),Vals xs its/\h.get? a=some { cls:=.type "list",data:=.seq its.toArray n }
 |.tup xs=>xs.length<=sizeLine/\∃its:List Value,Vals xs its/\TupD h a its.toArray
 |.dK kvs=>kvs.length<=sizeLine/\(a == sysModules)=false/\∃vs,KV kvs vs/\h.DictOf (vk P w) a vs
 |.dT kvs=>kvs.length<=sizeLine/\(a == sysModules)=false/\∃xs:List (List Key×Addr×Value),
   Paired (λ(p:List Key×V) (q:List Key×Addr×Value)=>p.1=q.1/\H q.2.1=some (.tup (p.1.map kV))/\RelV p.2 q.2.2) kvs xs /\
   ∃o es ep,h.get? a=some o/\o.ExactDict/\o.data=.dict es ep/\es.toList=xs.map (entryOfKey (tupleKind (vk P w)))/\(xs.map (·.1)).Nodup
 |.set S n=>h.SetOf (intKind P w) a S n
 |.ins C dx fs=>H dx=some (.own a)/\fs.length<=1000/\dx≠a/\h.get? a=some (PySem.W.instObj C dx) /\
   ∃mA,h.Ns1 dx mA/\(∀f,zpf (fs.lookup f) (mA f))/\PySem.Within mA (fs.map (·.1))
 |.own _=>∃o,h.get? a=some o
 |.xd fs=>∃mA,h.Ns1 a mA/\∀f,zpf (fs.lookup f) (mA f)
 |.rng lo hi=>∃t u v,h.get? a=some { cls:=.type "range",data:=.fields #[.int lo t,.int hi u,.int 1 v] }
 |.frz o u=>h.get? a=some o/\ObjOk H h a u
 |.tbl ps=>zf7 H h a ps
 |.met f x=>h.get? a=some (PySem.W.methodObj (.ref f) (.ref x))
 |.ext φ=>φ h/\(∃o,h.get? a=some o)/\∀h1 h2:Heap,φ h1->(∀o,h1.get? a=some o->h2.get? a=some o)->φ h2
def HOk(H:Hp)(h:Heap):Prop:=∀a o,H a=some o->ObjOk P w H h a o
end
section
variable {P:Program}{w:World}{H H':Hp}{h h':Heap}{a:Addr}{o:HO}
theorem ObjOk.lt(x:ObjOk P w H h a o):a<h.objs.size:=by
 cases o with
 |lst xs=>obtain⟨_,_,_,_,e⟩:=x;exact Heap.lt_size e
 |tup xs=>obtain⟨_,_,_,p⟩:=x;exact p.lt
 |dK kvs=>obtain⟨_,_,_,_,o,_,_,e,_⟩:=x;exact Heap.lt_size e
 |dT kvs=>obtain⟨_,_,_,_,o,_,_,e,_⟩:=x;exact Heap.lt_size e
 |set S n=>obtain⟨o,_,_,_,e,_⟩:=x;exact Heap.lt_size e
 |ins C dx fs=>obtain⟨_,_,_,e,_⟩:=x;exact Heap.lt_size e
 |own y=>obtain⟨_,e⟩:=x;exact Heap.lt_size e
 |xd fs=>obtain⟨_,⟨_,_,_,e,_⟩,_⟩:=x;exact Heap.lt_size e
 |rng lo hi=>obtain⟨_,_,_,e⟩:=x;exact Heap.lt_size e
 |frz ob u=>obtain⟨e,_⟩:=x;exact Heap.lt_size e
 |tbl ps=>obtain⟨_,_,_,_,e,_⟩:=x;exact Heap.lt_size e
 |met f y=>exact Heap.lt_size (show h.get? a=some _ from x)
 |ext φ=>obtain⟨_,⟨_,e⟩,_⟩:=x;exact Heap.lt_size e
theorem Paired.mapP{α β:Type}{F G:α->β->Prop}:∀{l₁:List α}{l₂:List β},Paired F l₁ l₂->(∀a b,F a b->G a b)->Paired G l₁ l₂
 |_,_,.nil,_=>.nil
 |_,_,.cons r t,f=>.cons (f _ _ r) (Paired.mapP t f)
theorem ObjOk.stay(x:ObjOk P w H h a o)(k:∀b u,(b=a\/H b=some (.own a))->h.get? b=some u->h'.get? b=some u)
  (ho:∀b,H b=some (.own a)->H' b=some (.own a)) (ht:∀b xs,H b=some (.tup xs)->H' b=some (.tup xs)) (hf:∀b o u,H b=some (.frz o u)->H' b=some (.frz o u):=by exact λ_ _ _ q=>q):ObjOk P w H' h' a o:=by
 induction o with
 |lst xs=>obtain⟨z,its,n,r,e⟩:=x;exact⟨z,its,n,r,k _ _ (.inl rfl) e⟩
 |tup xs=>obtain⟨z,its,r,ob,e,c⟩:=x;exact⟨z,its,r,ob,k _ _ (.inl rfl) e,c⟩
 |dK kvs=>obtain⟨z,y,vs,r,ob,es,ep,e,c⟩:=x;exact⟨z,y,vs,r,ob,es,ep,k _ _ (.inl rfl) e,c⟩
 |dT kvs=>
  obtain⟨z,y,xs,r,ob,es,ep,e,c⟩:=x;exact⟨z,y,xs,Paired.mapP r λp q z=>⟨z.1,ht _ _ z.2.1,z.2.2⟩,ob,es,ep,k _ _ (.inl rfl) e,c⟩
 |set S n=>obtain⟨ob,es,ep,t,e,c⟩:=x;exact⟨ob,es,ep,t,k _ _ (.inl rfl) e,c⟩
 |ins C dx fs=>
  obtain⟨d,z,ne,e,mA,⟨od,es,ep,e2,c⟩,r⟩:=x;exact⟨ho _ d,z,ne,k _ _ (.inl rfl) e,mA,⟨od,es,ep,k _ _ (.inr d) e2,c⟩,r⟩
 |own y=>obtain⟨ob,e⟩:=x;exact⟨ob,k _ _ (.inl rfl) e⟩
 |xd fs=>obtain⟨mA,⟨od,es,ep,e,c⟩,r⟩:=x;exact⟨mA,⟨od,es,ep,k _ _ (.inl rfl) e,c⟩,r⟩
 |rng lo hi=>obtain⟨t,u,v,e⟩:=x;exact⟨t,u,v,k _ _ (.inl rfl) e⟩
 |frz ob u ih=>obtain⟨e,q⟩:=x;exact⟨k _ _ (.inl rfl) e,ih q⟩
 |tbl ps=>
  obtain⟨rs,q,t,z,e,tr,r⟩:=x;exact⟨rs,q,t,z,k a _ (.inl rfl) e,tr,λpos cv y=>let ⟨c',oc,u,r1,r2,r3⟩:=r pos cv y;⟨c',oc,u,r1,hf _ _ _ r2,r3⟩⟩
 |met f y=>
  have e:h.get? a=some (PySem.W.methodObj (.ref f) (.ref y)):=x;show h'.get? a=some (PySem.W.methodObj (.ref f) (.ref y));exact k a _ (.inl rfl) e
 |ext φ=>obtain⟨p,⟨o,e⟩,st⟩:=x;exact⟨st _ _ p λo q=>k _ _ (.inl rfl) q,⟨o,k _ _ (.inl rfl) e⟩,st⟩
theorem HOk.lt(x:HOk P w H h)(e:H a=some o):a<h.objs.size:=(x a o e).lt
theorem HOk.fresh(x:HOk P w H h)(e:h.objs.size<=a):H a=none:=by
 cases q:H a with
 |none=>rfl
 |some u=>exact absurd (Nat.lt_of_lt_of_le (x.lt q) e) (Nat.lt_irrefl _)
theorem HOk.kept(x:HOk P w H h)(k:∀b u,h.get? b=some u->h'.get? b=some u):HOk P w H h':=λa o e=>
 (x a o e).stay (λb u _ q=>k b u q) (λ_ q=>q) λ_ _ q=>q
theorem HOk.laid(x:HOk P w H h)(k:∀b u,h.get? b=some u->h'.get? b=some u)(hp:h.objs.size<=a)(new:ObjOk P w (upd H a o) h' a o):HOk P w (upd H a o) h':=λb u e=>by
 have hn:=x.fresh hp
 by_cases hb:b=a
 ·subst hb;rw[zj]at e;cases e;exact new
 ·rw[zn hb]at e;exact(x b u e).stay (λc v _ q=>k c v q) (λc q=>by rw[zn (z9 q hn)];exact q) (λc xs q=>by rw[zn (z9 q hn)];exact q) λc _ _ q=>by rw[zn (z9 q hn)];exact q
end
def Rd(H:Hp)(a:Addr)(u:HO):Prop:=H a=some u\/∃o,H a=some (.frz o u)
theorem Rd.ok{P:Program}{w:World}{H:Hp}{h:Heap}{a:Addr}{u:HO}(r:Rd H a u)(x:HOk P w H h):ObjOk P w H h a u:=by
 rcases r with r |⟨o,r⟩
 ·exact x a u r
 ·obtain⟨_,q⟩:=x a _ r;exact q
def Mut:Option HO->Prop
 |some (.lst _)=>True
 |some (.dK _)=>True
 |some (.dT _)=>True
 |some (.set _ _)=>True
 |some (.ins _ _ _)=>True
 |some (.ext _)=>True
 |_=>False
section
variable {P:Program}{w:World}{H:Hp}{h h':Heap}{x e:Addr}{o':HO}
theorem HOk.write(ok:HOk P w H h)(mu:Mut (H x))(he:e=x\/H e=some (.own x))(k:∀b u,b≠e->h.get? b=some u->h'.get? b=some u)(heo:∃u,h'.get? e=some u)
  (new:ObjOk P w (upd H x o') h' x o'):HOk P w (upd H x o') h':=λb u q=>by
 have nown:∀c y,H c=some (.own y)->c≠x:=λc y r z=>by subst z;rw[r]at mu;exact mu
 have ntup:∀c xs,H c=some (.tup xs)->c≠x:=λc xs r z=>by subst z;rw[r]at mu;exact mu
 have nfrz:∀c o u,H c=some (.frz o u)->c≠x:=λc o u r z=>by subst z;rw[r]at mu;exact mu
 by_cases hb:b=x
 ·subst hb;rw[zj]at q;cases q;exact new
 ·rw[zn hb]at q
  by_cases hbe:b=e
  ·have q':H b=some (.own x):=by
    rcases he with z|z
    ·exact absurd (hbe.trans z) hb
    ·rw[hbe];exact z
   rw[q]at q';cases q';obtain⟨v,hv⟩:=heo;exact⟨v,by rw[hbe];exact hv⟩
  ·refine(ok b u q).stay (λc v hc r=>k c v ?_ r) (λc r=>by rw[zn (nown c b r)];exact r) (λc xs r=>by rw[zn (ntup c xs r)];exact r) (λc o u r=>by rw[zn (nfrz c o u r)];exact r);rcases hc with rfl|hc
   ·exact hbe
   ·rintro rfl;rcases he with z|z
    ·exact nown c b hc z
    ·rw[hc]at z;cases z;exact hb rfl
end
structure Un(fs ex:List Addr)(H H':Hp)(h h':Heap):Prop where
 keep:∀b o,h.get? b=some o->H b=none->b∉fs->b∉ex->h'.get? b=some o
 slot:∀b o,h.get? b=some o->H b=none->b∈fs->b∉ex->∃sl,h'.get? b=some { o with slots:=sl }
 free:∀b o,h.get? b=some o->H b=none->b∉ex->H' b=none
 there:∀b o,h.get? b=some o->b∉ex->∃o',h'.get? b=some o'
 tups:∀b xs,H b=some (.tup xs)->H' b=some (.tup xs)
 frzs:∀b o u,H b=some (.frz o u)->H' b=some (.frz o u)
 tbls:∀b ps,H b=some (.tbl ps)->∃more,H' b=some (.tbl (ps++more))
section
variable {fs fs' ex ex':List Addr}{H H1 H2:Hp}{h h1 h2 h':Heap}{a x e:Addr}{o:HO}
theorem Un.any(u:Un fs ex H H1 h h1){b:Addr}{ob:Obj}(q:h.get? b=some ob)(n:H b=none)(hx:b∉ex):∃sl,h1.get? b=some { ob with slots:=sl }:=by
 by_cases hb:b∈fs
 ·exact u.slot b ob q n hb hx
 ·exact⟨ob.slots,u.keep b ob q n hb hx⟩
theorem Un.kept(k:∀b u,h.get? b=some u->h'.get? b=some u):Un fs ex H H h h' :=
 ⟨λb ob q _ _ _=>k b ob q,λb ob q _ _ _=>⟨ob.slots,k b ob q⟩,λ_ _ _ n _=>n,λb ob q _=>⟨ob,k b ob q⟩,λ_ _ q=>q,λ_ _ _ q=>q,λ_ ps q=>⟨#[],by rw[q];simp⟩⟩
theorem Un.refl:Un fs ex H H h h:=Un.kept λ_ _ q=>q
theorem Un.laid(k:∀b u,h.get? b=some u->h'.get? b=some u)(hp:h.objs.size<=a)(hn:H a=none):Un fs ex H (upd H a o) h h' where
 keep:=λb u q _ _ _=>k b u q
 slot:=λb u q _ _ _=>⟨u.slots,k b u q⟩
 free:=λb u q n _=>by rw[zn (Nat.ne_of_lt (Nat.lt_of_lt_of_le (Heap.lt_size q) hp))];exact n
 there:=λb u q _=>⟨u,k b u q⟩
 tups:=λb xs q=>by rw[zn (z9 q hn)];exact q
 frzs:=λb u xs q=>by rw[zn (z9 q hn)];exact q
 tbls:=λb ps q=>⟨#[],by rw[zn (z9 q hn),q];simp⟩
theorem Un.write(mu:Mut (H x))(he:e=x\/H e=some (.own x))(k:∀b u,b≠e->h.get? b=some u->h'.get? b=some u)(heo:∃u,h'.get? e=some u):Un fs ex H (upd H x o) h h':=by
 have hx:∀b,H b=none->b≠x:=λb n z=>by subst z;rw[n]at mu;exact mu
 have hb:∀b,H b=none->b≠e:=λb n z=>by
  subst z;rcases he with r|r
  ·exact hx b n r
  ·rw[n]at r;cases r
 have hm:∀b u,H b=some u->¬ Mut (some u)->b≠x:=λb u q nm z=>by subst z;rw[q]at mu;exact nm mu
 refine⟨λb u q n _ _=>k b u (hb b n) q,λb u q n _ _=>⟨u.slots,k b u (hb b n) q⟩,λb u q n _=>by rw[zn (hx b n)];exact n,λb u q _=>?_,
  λb xs q=>by rw[zn (hm b _ q λz=>z)];exact q,λb u xs q=>by rw[zn (hm b _ q λz=>z)];exact q,λb ps q=>⟨#[],by rw[zn (hm b _ q λz=>z),q];simp⟩⟩
 by_cases hbe:b=e
 ·subst hbe;exact heo
 ·exact⟨u,k b u hbe q⟩
end
def trk(h:Heap)(H:Hp):List Addr:=(List.range h.objs.size).filter λa=>(H a).isSome
def zcd(h:Heap)(H:Hp):Heap:=PySem.W.hideAll h (trk h H)
theorem zkv(h:Heap)(H:Hp):(zcd h H).objs.size=h.objs.size:=PySem.W.hideAll_size _ _
theorem zmh{h:Heap}{H:Hp}{b:Addr}{o:Obj}(e:h.get? b=some o)(n:H b=none):(zcd h H).get? b=some o :=
 PySem.W.hideAll_get _ e λhm=>by
  have q:(H b).isSome=true:=(List.mem_filter.mp hm).2;rw[n]at q;simp at q
theorem zpg{h:Heap}{H:Hp}{b:Addr}{o:Obj}(e:(zcd h H).get? b=some o):h.get? b=some o/\H b=none:=by
 have e':h.get? b=some o:=PySem.W.of_hideAll (trk h H) e;refine⟨e',?_⟩
 cases q:H b with
 |none=>rfl
 |some x=>
  have hm:b∈trk h H:=List.mem_filter.mpr ⟨List.mem_range.mpr (Heap.lt_size e'),by simp[q]⟩;have z:(zcd h H).get? b=none:=PySem.W.hideAll_none (trk h H) hm;rw[z]at e;cases e
def zph(g h:Heap)(L:Addr):List (Addr×Obj):=(List.range h.objs.size).filterMap λa=>if a=L\/(g.get? a).isSome=true then none else (h.get? a).map λo=>(a,o)
def rest(g h:Heap)(L d:Addr):List (Addr×Obj):=(zph g h L).filter λp=>decide (p.1≠d)
structure Mod(K:PySem.W.Frag)(mg:Str->Option Value)(base:Heap):Prop where
 kin:K.In base
 glob:base.Ns mainGlobals mg
 blt:∃mb,base.Ns builtinsNs mb/\∀x:Str,x ≠ "__name__" -> mb x=bootBuiltins x
 nolimit:base.NoLimit
structure Cx where
 prog:Program
 w:World
 K:PySem.W.Frag
 mg:Str->Option Value
 base:Heap
 A:Around
 N:List Str
 s₀:Shared
 H₀:Hp
 env:Env
 outer:List Env
 stack:List Env
 ex:List Addr
 fn:Str->Bool
 calm:Bool
 pn:List (Addr×Obj)
 xe:Value->Shared->Prop
def frs(l:List Env):List Addr:=l.filterMap (·.frame)
abbrev Cx.fs(X:Cx):List Addr:=frs X.outer
def Vis(sc:Scope)(x:Str):Prop:=sc.names.lookup x=some .local\/sc.names.lookup x=some .cell\/sc.names.lookup x=some .free
def Loc(sc:Scope)(x:Str):Prop:=sc.names.lookup x=some .local\/sc.names.lookup x=some .cell
def zvy(env:Env)(h:Heap)(m:Str->Option Value)(x:Str)(u:Value):Prop :=
 (env.kindOf x=some .local/\m x=some u)\/((env.kindOf x=some .cell\/env.kindOf x=some .free)/\∃c,env.cells.lookup x=some c/\h.IsCell c (some u))
structure Cx.Ok(X:Cx):Prop where
 mod:Mod X.K X.mg X.base
 kind:X.env.scope.kind=.function
 glob:X.env.globals=mainGlobals
 blt:X.env.builtins=builtinsNs
 above:X.s₀.heap.objs.size<=X.env.locals
 inj:∀x y c,X.env.cells.lookup x=some c->X.env.cells.lookup y=some c->x=y
 has:∀x,(X.env.kindOf x=some .cell\/X.env.kindOf x=some .free)->∃c,X.env.cells.lookup x=some c
 cab:∀x c,X.fn x=true->X.env.cells.lookup x=some c->X.s₀.heap.objs.size<=c
 hd:X.calm=true->X.A.handled=none
 frames:X.A.frames=some X.stack
 stk:X.stack=X.outer\/(X.stack=X.env::X.outer/\X.env.frame=some X.env.locals)
 exf:∀b∈X.ex,b≠X.env.locals/\∀x c,X.env.cells.lookup x=some c->c≠b
 bs:∀b o,X.base.get? b=some o->X.s₀.heap.get? b=some o/\X.H₀ b=none
 bsz:X.base.objs.size<=X.s₀.heap.objs.size
 noex:∀b o,X.base.get? b=some o->b∉X.ex
 exfs:∀b∈X.ex,b∉X.fs
 funs:X.s₀.heap.FunFrames X.base X.outer
 frf:∀b∈X.fs,X.H₀ b=none
structure Inv(X:Cx)(pins:List (Addr×Obj))(σ:List (Option V))(H:Hp)(s:Shared):Prop where
 ok:X.Ok
 os:s.os=X.s₀.os
 bare:AllBare s.gens
 base:Un X.fs X.ex X.H₀ H X.s₀.heap s.heap
 loc:∃m,s.heap.Ns X.env.locals m/\∀(i:Nat) (x:Str) (v:V),X.N[i]?=some x->σ[i]?=some (some v)->Vis X.env.scope x->∃u,RelV v u/\zvy X.env s.heap m x u
 cell:∀x c,X.env.cells.lookup x=some c->∃v,s.heap.IsCell c v
 free:H X.env.locals=none
 freeC:∀x c,X.env.cells.lookup x=some c->H c=none
 pin:∀p∈X.pn++pins,s.heap.get? p.1=some p.2/\H p.1=none/\p.1≠X.env.locals/\p.1∉X.fs/\∀v,p.2.data ≠ .cell v
 hok:HOk X.prog X.w H s.heap
 len:σ.length=X.N.length
section
variable {X:Cx}{pins:List (Addr×Obj)}{σ:List (Option V)}{H H':Hp}{s:Shared}{h':Heap}
theorem Cx.Ok.nofr(ok:X.Ok){b:Addr}{o:Obj}(e:X.base.get? b=some o):b∉X.fs:=λhb=>by
 have:=(ok.funs.mem hb).1;rw[e]at this;cases this
theorem Inv.bs(I:Inv X pins σ H s):∀b o,X.base.get? b=some o->s.heap.get? b=some o/\H b=none:=λb o e=>
 ⟨I.base.keep b o (I.ok.bs b o e).1 (I.ok.bs b o e).2 (I.ok.nofr e) (I.ok.noex b o e),I.base.free b o (I.ok.bs b o e).1 (I.ok.bs b o e).2 (I.ok.noex b o e)⟩
theorem Inv.bk(I:Inv X pins σ H s):∀b o,X.base.get? b=some o->s.heap.get? b=some o:=λb o e=>(I.bs b o e).1
theorem Inv.mod(I:Inv X pins σ H s):Mod X.K X.mg X.base:=I.ok.mod
theorem Inv.kIn(I:Inv X pins σ H s):X.K.In s.heap:=I.ok.mod.kin.keeps I.bk
theorem Inv.lt(I:Inv X pins σ H s):X.env.locals<s.heap.objs.size:=let ⟨_,hn,_⟩:=I.loc;hn.lt
theorem Inv.sz(I:Inv X pins σ H s):X.s₀.heap.objs.size<=s.heap.objs.size:=Nat.le_trans I.ok.above (Nat.le_of_lt I.lt)
theorem Inv.nofs(I:Inv X pins σ H s){a:Addr}(h:s.heap.objs.size<=a):a∉X.fs:=λhb=>by
 obtain⟨_,o,ho,_⟩:=I.ok.funs.mem hb;exact absurd (Nat.lt_of_lt_of_le (Heap.lt_size ho) (Nat.le_trans I.sz h)) (Nat.lt_irrefl _)
theorem Inv.cne(I:Inv X pins σ H s):∀x c,X.env.cells.lookup x=some c->c≠X.env.locals:=λx c e z=>by
 obtain⟨v,o,ho,hd⟩:=I.cell x c e;obtain⟨m,⟨o',es,ep,ho',hd',_⟩,_⟩:=I.loc;rw[z,ho']at ho;cases ho;rw[hd']at hd;cases hd
theorem Inv.funs(I:Inv X pins σ H s):s.heap.FunFrames X.base X.outer:=by
 have all:∀(l:List Env),(∀b∈frs l,b∈X.fs)->X.s₀.heap.FunFrames X.base l->s.heap.FunFrames X.base l:=by
  intro l
  induction l with
  |nil=>intro _ _;trivial
  |cons env r ih=>
   intro hs hl;obtain⟨hk,⟨L,o,hf,hn,ho,hd⟩,hr⟩:=hl;have hL:L∈X.fs:=hs L (by unfold frs;rw[List.filterMap_cons,hf];exact List.mem_cons_self);obtain⟨sl,e⟩:=I.base.slot L o ho (I.ok.frf L hL) hL λz=>I.ok.exfs L z hL;exact⟨hk,⟨L,_,hf,hn,e,hd⟩,ih (λb hb=>hs b (by unfold frs;rw[List.filterMap_cons,hf];exact List.mem_cons_of_mem _ hb)) hr⟩
 exact all X.outer (λ_ hb=>hb) I.ok.funs
theorem Inv.stack(I:Inv X pins σ H s):s.heap.FunFrames X.base X.stack:=by
 rcases I.ok.stk with e |⟨e,hf⟩
 ·rw[e];exact I.funs
 ·rw[e];obtain⟨m,hn,_⟩:=I.loc;refine .cons (by rw[I.ok.kind];decide) hf hn ?_ I.funs;exact Heap.get?_none_of_le (Nat.le_trans I.ok.bsz I.ok.above)
theorem Inv.stkSub(I:Inv X pins σ H s):∀b∈frs X.stack,b∈X.env.locals::X.fs:=λb hb=>by
 rcases I.ok.stk with e |⟨e,hf⟩
 ·rw[e]at hb;exact List.mem_cons_of_mem _ hb
 ·rw[e]at hb;unfold frs at hb;rw[List.filterMap_cons,hf]at hb;exact hb
theorem Inv.stkFree(I:Inv X pins σ H s):∀b∈frs X.stack,H b=none:=λb hb=>by
 rcases List.mem_cons.mp (I.stkSub b hb) with e|hb
 ·rw[e];exact I.free
 ·obtain⟨_,o,ho,_⟩:=I.ok.funs.mem hb;exact I.base.free b o ho (I.ok.frf b hb) λz=>I.ok.exfs b z hb
theorem Inv.step{g':Array GenState}{t':Nat}{d':Drawn}{ch:List Addr}(I:Inv X pins σ H s)
  (hch:∀b∈ch,(b∈X.ex\/X.s₀.heap.objs.size<=b)/\b≠X.env.locals/\(∀x c,X.env.cells.lookup x=some c->c≠b)/\∀p∈X.pn++pins,p.1≠b)
  (keep:∀b o,b≠X.env.locals->b∉X.fs->b∉ch->s.heap.get? b=some o->H b=none->h'.get? b=some o)
  (slot:∀b o,b≠X.env.locals->b∈X.fs->b∉ch->s.heap.get? b=some o->H b=none->∃sl,h'.get? b=some { o with slots:=sl }) (free:∀b o,b∉ch->s.heap.get? b=some o->H b=none->H' b=none)
  (there:∀b o,b∉ch->s.heap.get? b=some o->∃o',h'.get? b=some o')
  (tups:∀b xs,H b=some (.tup xs)->H' b=some (.tup xs)) (frzs:∀b o u,H b=some (.frz o u)->H' b=some (.frz o u)) (tbls:∀b ps,H b=some (.tbl ps)->∃more,H' b=some (.tbl (ps++more)))
  (ns:∀m,s.heap.Ns X.env.locals m->h'.Ns X.env.locals m) (hok:HOk X.prog X.w H' h') (hg:AllBare g') :
  Inv X pins σ H' { s with heap:=h',gens:=g',drawn:=d',toks:=t' }:=by
 have neL:∀b o,X.s₀.heap.get? b=some o->b≠X.env.locals:=λb o e=>Nat.ne_of_lt (Nat.lt_of_lt_of_le (Heap.lt_size e) I.ok.above);have neC:∀b o,X.s₀.heap.get? b=some o->b∉X.ex->b∉ch:=λb o e hx hb=>by
  rcases (hch b hb).1 with z|z
  ·exact hx z
  ·exact absurd (Nat.lt_of_lt_of_le (Heap.lt_size e) z) (Nat.lt_irrefl _)
 have cellK:∀x c,X.env.cells.lookup x=some c->∀v,s.heap.IsCell c v->h'.IsCell c v:=λx c e v ⟨o,ho,hd⟩=>by
  have nch:c∉ch:=λz=>(hch c z).2.2.1 x c e rfl
  by_cases hc:c∈X.fs
  ·obtain⟨sl,q⟩:=slot c o (I.cne x c e) hc nch ho (I.freeC x c e);exact⟨_,q,hd⟩
  ·exact⟨o,keep c o (I.cne x c e) hc nch ho (I.freeC x c e),hd⟩
 refine⟨I.ok,I.os,hg,⟨λb o e n hb hx=>?_,λb o e n hb hx=>?_,λb o e n hx=>?_,λb o e hx=>?_,λb xs e=>tups b xs (I.base.tups b xs e),λb o xs e=>frzs b o xs (I.base.frzs b o xs e),λb ps e=>?_⟩,?_,λx c e=>?_,?_,λx c e=>?_,λp hp=>?_,hok,I.len⟩
 ·exact keep b o (neL b o e) hb (neC b o e hx) (I.base.keep b o e n hb hx) (I.base.free b o e n hx)
 ·obtain⟨sl,e1⟩:=I.base.slot b o e n hb hx;obtain⟨sl',e2⟩:=slot b _ (neL b o e) hb (neC b o e hx) e1 (I.base.free b o e n hx);exact⟨sl',e2⟩
 ·obtain⟨o',e1⟩:=I.base.there b o e hx;exact free b o' (neC b o e hx) e1 (I.base.free b o e n hx)
 ·obtain⟨o',e1⟩:=I.base.there b o e hx;exact there b o' (neC b o e hx) e1
 ·obtain⟨m1,e1⟩:=I.base.tbls b ps e;obtain⟨m2,e2⟩:=tbls b _ e1;exact⟨m1++m2,by rw[e2,Array.append_assoc]⟩
 ·obtain⟨m,hn,hl⟩:=I.loc;refine⟨m,ns m hn,λi x v e1 e2 e3=>?_⟩;obtain⟨u,r,l⟩:=hl i x v e1 e2 e3;refine⟨u,r,?_⟩;rcases l with l |⟨k,c,e,z⟩
  ·exact .inl l
  ·exact .inr ⟨k,c,e,cellK x c e _ z⟩
 ·obtain⟨v,z⟩:=I.cell x c e;exact⟨v,cellK x c e v z⟩
 ·obtain⟨m,⟨o,_,_,ho,_⟩,_⟩:=I.loc;exact free _ o (λz=>(hch _ z).2.1 rfl) ho I.free
 ·obtain⟨v,o,ho,hd⟩:=I.cell x c e;exact free c o (λz=>(hch c z).2.2.1 x c e rfl) ho (I.freeC x c e)
 ·obtain⟨e,n,ne,nf,d⟩:=I.pin p hp;have nch:p.1∉ch:=λz=>(hch p.1 z).2.2.2 p hp rfl;exact⟨keep p.1 p.2 ne nf nch e n,free p.1 p.2 nch e n,ne,nf,d⟩
theorem Inv.un{t':Nat}(I:Inv X pins σ H s)(u:Un X.fs [] H H' s.heap h')(hok:HOk X.prog X.w H' h'):Inv X pins σ H' { s with heap:=h',toks:=t' }:=by
 obtain⟨m,⟨o,es,ep,ho,r⟩,_⟩:=id I.loc;obtain⟨sl,hL⟩:=u.any ho I.free (by simp);exact I.step (g':=s.gens) (d':=s.drawn) (ch:=[]) (λ_ z=>nomatch z) (λb o _ hb _ e n=>u.keep b o e n hb (by simp)) (λb o _ hb _ e n=>u.slot b o e n hb (by simp)) (λb o _ e n=>u.free b o e n (by simp)) (λb o _ e=>u.there b o e (by simp)) u.tups u.frzs u.tbls (λm' hm=>by
  obtain⟨o',es',ep',ho',r'⟩:=hm;rw[ho]at ho';cases ho';exact⟨_,es',ep',hL,r'⟩) hok I.bare
theorem Inv.call{g':Array GenState}{t':Nat}{d':Drawn}{ch:List Addr}(I:Inv X pins σ H s)(u:Un (frs X.stack) ch H H' s.heap h')(hok:HOk X.prog X.w H' h')(hg:AllBare g')
  (hch:∀b∈ch,(b∈X.ex\/X.s₀.heap.objs.size<=b)/\b≠X.env.locals/\(∀x c,X.env.cells.lookup x=some c->c≠b)/\∀p∈X.pn++pins,p.1≠b) :
  Inv X pins σ H' { s with heap:=h',gens:=g',drawn:=d',toks:=t' }:=by
 obtain⟨m,⟨o,es,ep,ho,r⟩,_⟩:=id I.loc;obtain⟨sl,hL⟩:=u.any ho I.free λz=>(hch _ z).2.1 rfl;exact I.step (ch:=ch) hch (λb o hL hb hc e n=>u.keep b o e n (λz=>(List.mem_cons.mp (I.stkSub b z)).elim hL hb) hc) (λb o _ _ hc e n=>u.any e n hc) (λb o hc e n=>u.free b o e n hc) (λb o hc e=>u.there b o e hc) u.tups u.frzs u.tbls (λm' hm=>by
  obtain⟨o',es',ep',ho',r'⟩:=hm;rw[ho]at ho';cases ho';exact⟨_,es',ep',hL,r'⟩) hok hg
theorem Inv.turned{t':Nat}{it:Addr}(I:Inv X pins σ H s)(k:∀b o,b≠it->s.heap.get? b=some o->h'.get? b=some o)(hn:H it=none)(hL:it≠X.env.locals)
  (h1:it∈X.ex\/X.s₀.heap.objs.size<=it) (h2:∀x c,X.env.cells.lookup x=some c->c≠it) (h3:∀p∈X.pn++pins,p.1≠it):Inv X pins σ H { s with heap:=h',toks:=t' }:=by
 have nit:∀b u,H b=some u->b≠it:=λb u e z=>by rw[z,hn]at e;cases e
 refine I.step (g':=s.gens) (d':=s.drawn) (ch:=[it]) (λb hb=>?_) (λb o _ _ hc e _=>k b o (λz=>hc (by simp[z])) e) (λb o _ _ hc e _=>⟨o.slots,k b o (λz=>hc (by simp[z])) e⟩) (λ_ _ _ _ n=>n)
  (λb o hc e=>⟨o,k b o (λz=>hc (by simp[z])) e⟩) (λ_ _ e=>e) (λ_ _ _ e=>e) (λb ps e=>⟨#[],by rw[e];simp⟩) (λm hm=>?_) (λb u e=>?_) I.bare
 ·have e:b=it:=by simpa using hb
  subst e;exact⟨h1,hL,h2,h3⟩
 ·obtain⟨o,es,ep,ho,r⟩:=hm;exact⟨o,es,ep,k _ o (Ne.symm hL) ho,r⟩
 ·refine(I.hok b u e).stay (λc v hc q=>k c v ?_ q) (λ_ q=>q) λ_ _ q=>q;rcases hc with z|z
  ·rw[z];exact nit b u e
  ·exact nit c _ z
theorem Inv.tok(I:Inv X pins σ H s)(t:Nat):Inv X pins σ H { s with toks:=t }:=I.un (h':=s.heap) (t':=t) Un.refl I.hok
theorem Inv.kept{t':Nat}(I:Inv X pins σ H s)(k:∀b u,s.heap.get? b=some u->h'.get? b=some u):Inv X pins σ H { s with heap:=h',toks:=t' }:=I.un (Un.kept k) (I.hok.kept k)
theorem Inv.laid{a:Addr}{o:HO}{t':Nat}(I:Inv X pins σ H s)(k:∀b u,s.heap.get? b=some u->h'.get? b=some u)(hp:s.heap.objs.size<=a)(new:ObjOk X.prog X.w (upd H a o) h' a o):
  Inv X pins σ (upd H a o) { s with heap:=h',toks:=t' }:=I.un (Un.laid k hp (I.hok.fresh hp)) (I.hok.laid k hp new)
theorem Inv.write{x e:Addr}{o:HO}{t':Nat}(I:Inv X pins σ H s)(mu:Mut (H x))(he:e=x\/H e=some (.own x))(k:∀b u,b≠e->s.heap.get? b=some u->h'.get? b=some u)(heo:∃u,h'.get? e=some u)
  (new:ObjOk X.prog X.w (upd H x o) h' x o):Inv X pins σ (upd H x o) { s with heap:=h',toks:=t' }:=I.un (Un.write mu he k heo) (I.hok.write mu he k heo new)
theorem Inv.pins_of{pins':List (Addr×Obj)}(I:Inv X pins σ H s)(h:∀p∈pins',s.heap.get? p.1=some p.2/\H p.1=none/\p.1≠X.env.locals/\p.1∉X.fs/\∀v,p.2.data ≠ .cell v):Inv X pins' σ H s :=
 ⟨I.ok,I.os,I.bare,I.base,I.loc,I.cell,I.free,I.freeC,λp hp=>(List.mem_append.mp hp).elim (λz=>I.pin p (List.mem_append_left _ z)) (h p),I.hok,I.len⟩
theorem zf8{N:List Str}(hN:N.Nodup){i j:Nat}{x:Str}(a:N[i]?=some x)(b:N[j]?=some x):i=j:=by
 obtain⟨h1,e1⟩:=List.getElem?_eq_some_iff.mp a;obtain⟨h2,e2⟩:=List.getElem?_eq_some_iff.mp b;exact(List.getElem_inj hN).mp (e1.trans e2.symm)
theorem zbd{M:Model}{A:Around}{E:Value->Shared->Prop}{i:Nat}{x:Str}{v:V}{u:Value}{Q:Unit->Shared->Prop}(I:Inv X pins σ H s)(hN:X.N.Nodup)(hi:X.N[i]?=some x)(hx:Loc X.env.scope x)(r:RelV v u)
  (h:∀s',Inv X pins (σ.set i (some v)) H s'->(∃a,Heap.SameBut a s.heap s'.heap/\(a=X.env.locals\/X.env.cells.lookup x=some a))->Q () s') (hf:X.fn x=true\/X.env.scope.names.lookup x=some .local:=by first|exact .inl rfl|exact .inr rfl|assumption):wpAny M A (storeName X.env x u) Q E s:=by
 obtain⟨m,hn,hl⟩:=id I.loc;have hcls:(X.env.scope.kind == .class ||(X.env.scope.kind == .module && X.env.locals != X.env.globals))=false:=by rw[I.ok.kind];rfl
 have hiσ:i<σ.length:=by rw[I.len];exact(List.getElem?_eq_some_iff.mp hi).1
 have cne:=I.cne;have tracked:∀{a:Addr}{h':Heap},(∃o,s.heap.get? a=some o/\H a=none)->Heap.SameBut a s.heap h'->HOk X.prog X.w H h':=λ{a h'} ha hs b ob e=>by
  obtain⟨_,_,hfree⟩:=ha;refine(I.hok b ob e).stay (λc w' hc q=>(hs.2 c ?_).trans q) (λ_ q=>q) λ_ _ q=>q;rintro rfl;rcases hc with rfl|hc
  ·rw[hfree]at e;cases e
  ·rw[hfree]at hc;cases hc
 rcases hx with hk|hk
 ·refine wpAny_storeName_local hk hn (λh' hn' hs=>?_) hcls;obtain⟨oL,_,_,hoL,_⟩:=id hn;refine h _ ⟨I.ok,I.os,I.bare,⟨λb o e n hb hx=>?_,λb o e n hb hx=>?_,I.base.free,λb o e hx=>?_,I.base.tups,I.base.frzs,I.base.tbls⟩,⟨_,hn',λj y v' e1 e2 e3=>?_⟩,λy c e=>?_,I.free,I.freeC,λp hp=>?_,tracked ⟨oL,hoL,I.free⟩ hs,by simpa using I.len⟩ ⟨_,hs,.inl rfl⟩
  ·exact(hs.2 b (Nat.ne_of_lt (Nat.lt_of_lt_of_le (Heap.lt_size e) I.ok.above))).trans (I.base.keep b o e n hb hx)
  ·obtain⟨sl,e1⟩:=I.base.slot b o e n hb hx;exact⟨sl,(hs.2 b (Nat.ne_of_lt (Nat.lt_of_lt_of_le (Heap.lt_size e) I.ok.above))).trans e1⟩
  ·obtain⟨o',e1⟩:=I.base.there b o e hx;exact⟨o',(hs.2 b (Nat.ne_of_lt (Nat.lt_of_lt_of_le (Heap.lt_size e) I.ok.above))).trans e1⟩
  ·by_cases hj:j=i
   ·subst hj;rw[hi]at e1;cases e1;rw[List.getElem?_set_self hiσ]at e2
    cases e2;exact⟨u,r,.inl ⟨hk,by simp⟩⟩
   ·rw[List.getElem?_set_ne (Ne.symm hj)]at e2;obtain⟨u',r',q⟩:=hl j y v' e1 e2 e3;refine⟨u',r',?_⟩;rcases q with⟨k,e⟩ |⟨k,c,e,z⟩
    ·refine .inl ⟨k,?_⟩;have:y≠x:=λe=>hj (zf8 hN e1 (e ▸ hi));simp[this,e]
    ·exact .inr ⟨k,c,e,z.sameBut hs (cne y c e)⟩
  ·obtain⟨w',z⟩:=I.cell y c e;exact⟨w',z.sameBut hs (cne y c e)⟩
  ·obtain⟨e,n,ne,nf,d⟩:=I.pin p hp;exact⟨(hs.2 p.1 ne).trans e,n,ne,nf,d⟩
 ·have hfn:X.fn x=true:=by
   rcases hf with z|z
   ·exact z
   ·rw[z]at hk;cases hk
  obtain⟨c,hc⟩:=I.ok.has x (.inl hk);obtain⟨w',z⟩:=I.cell x c hc;refine wpAny_storeName_cell I.ok.kind hk hc z (λh' hc' hs=>?_);obtain⟨oc,hoc,hocd⟩:=id z;refine h { s with heap:=h' } ⟨I.ok,I.os,I.bare,⟨λb o e n hb hx=>?_,λb o e n hb hx=>?_,I.base.free,λb o e hx=>?_,I.base.tups,I.base.frzs,I.base.tbls⟩,⟨m,hn.sameBut hs (Ne.symm (cne x c hc)),λj y v' e1 e2 e3=>?_⟩,λy c' e=>?_,I.free,I.freeC,λp hp=>?_,tracked ⟨oc,hoc,I.freeC x c hc⟩ hs,by simpa using I.len⟩ ⟨c,hs,.inr hc⟩
  ·exact(hs.2 b (Nat.ne_of_lt (Nat.lt_of_lt_of_le (Heap.lt_size e) (I.ok.cab x c hfn hc)))).trans (I.base.keep b o e n hb hx)
  ·obtain⟨sl,e1⟩:=I.base.slot b o e n hb hx;exact⟨sl,(hs.2 b (Nat.ne_of_lt (Nat.lt_of_lt_of_le (Heap.lt_size e) (I.ok.cab x c hfn hc)))).trans e1⟩
  ·obtain⟨o',e1⟩:=I.base.there b o e hx;exact⟨o',(hs.2 b (Nat.ne_of_lt (Nat.lt_of_lt_of_le (Heap.lt_size e) (I.ok.cab x c hfn hc)))).trans e1⟩
  ·by_cases hj:j=i
   ·subst hj;rw[hi]at e1;cases e1;rw[List.getElem?_set_self hiσ]at e2
    cases e2;exact⟨u,r,.inr ⟨.inl hk,c,hc,hc'⟩⟩
   ·rw[List.getElem?_set_ne (Ne.symm hj)]at e2;obtain⟨u',r',q⟩:=hl j y v' e1 e2 e3;refine⟨u',r',?_⟩;rcases q with q |⟨k,c',e,z'⟩
    ·exact .inl q
    ·refine .inr ⟨k,c',e,z'.sameBut hs ?_⟩;rintro rfl;exact hj (zf8 hN e1 (I.ok.inj _ _ _ e hc ▸ hi))
  ·by_cases hcc:c'=c
   ·subst hcc;exact⟨_,hc'⟩
   ·obtain⟨w2,z2⟩:=I.cell y c' e;exact⟨w2,z2.sameBut hs hcc⟩
  ·obtain⟨e,n,ne,nf,d⟩:=I.pin p hp;refine⟨(hs.2 p.1 ?_).trans e,n,ne,nf,d⟩;intro q;rw[q,hoc]at e;have q':oc=p.2:=Option.some.inj e;exact d w' (by rw[<-q'];exact hocd)
theorem vz{M:Model}{A:Around}{E:Value->Shared->Prop}{i:Nat}{x:Str}{v:V}{u:Value}{Q:Unit->Shared->Prop}(I:Inv X pins σ H s)(hN:X.N.Nodup)(hi:X.N[i]?=some x)(hx:Loc X.env.scope x)(r:RelV v u)
  (h:∀s',Inv X pins (σ.set i (some v)) H s'->Q () s') (hf:X.fn x=true\/X.env.scope.names.lookup x=some .local:=by first|exact .inl rfl|exact .inr rfl|assumption):wpAny M A (storeName X.env x u) Q E s :=
 zbd I hN hi hx r (λs' I' _=>h s' I') hf
theorem Inv.call'{s':Shared}{ch:List Addr}(I:Inv X pins σ H s)(ho:s'.os=s.os)(u:Un (frs X.stack) ch H H' s.heap s'.heap)(hok:HOk X.prog X.w H' s'.heap)(hg:AllBare s'.gens)
  (hch:∀b∈ch,(b∈X.ex\/X.s₀.heap.objs.size<=b)/\b≠X.env.locals/\(∀x c,X.env.cells.lookup x=some c->c≠b)/\∀p∈X.pn++pins,p.1≠b):Inv X pins σ H' s':=by
 obtain⟨h',g',d',t',o'⟩:=s';have e:o'=s.os:=ho;subst e;exact I.call (g':=g') (t':=t') (d':=d') u hok hg hch
end
abbrev XK:=Value->Option Addr->Hp->Prop
abbrev St:=List (Option V)
abbrev VK:=V->Hp->Prop
abbrev TE:=St->Hp->VK->Prop
abbrev TT:=St->Hp->(Bool->Hp->Prop)->Prop
abbrev TA:=St->Hp->(List V->Hp->Prop)->Prop
structure zkw where
 nx:St->Hp->Prop
 rt:VK
 bk:St->Hp->Prop:=λ_ _=>False
 ct:St->Hp->Prop:=λ_ _=>False
abbrev TS:=zkw->St->Hp->Prop
def EP(X:Cx)(pins:List (Addr×Obj))(σ:St)(Q:VK)(u:Value)(s':Shared):Prop:=∃v H',Inv X pins σ H' s'/\RelV v u/\Q v H'
def TP(X:Cx)(pins:List (Addr×Obj))(σ:St)(Q:Bool->Hp->Prop)(b:Bool)(s':Shared):Prop:=∃H',Inv X pins σ H' s'/\Q b H'
def AP(X:Cx)(pins:List (Addr×Obj))(σ:St)(Q:List V->Hp->Prop)(us:List Value)(s':Shared):Prop:=∃vs H',Inv X pins σ H' s'/\Vals vs us/\Q vs H'
def SP(X:Cx)(pins:List (Addr×Obj))(D:zkw)(f:Flow)(s':Shared):Prop :=
 match f with
 |.next=>∃σ' H',Inv X pins σ' H' s'/\D.nx σ' H'
 |.brk=>∃σ' H',Inv X pins σ' H' s'/\D.bk σ' H'
 |.cont=>∃σ' H',Inv X pins σ' H' s'/\D.ct σ' H'
 |.ret u=>∃v σ' H',Inv X pins σ' H' s'/\RelV v u/\D.rt v H'
def PE(X:Cx)(e:Expr)(t:TE):Prop :=
 ∀(pins:List (Addr×Obj)) (s:Shared) (σ:St) (H:Hp) (Q:VK),Inv X pins σ H s->t σ H Q->wpAny (model X.prog X.w) X.A (eval e X.env) (EP X pins σ Q) X.xe s
def PT(X:Cx)(e:Expr)(t:TT):Prop :=
 ∀(pins:List (Addr×Obj)) (s:Shared) (σ:St) (H:Hp) (Q:Bool->Hp->Prop),Inv X pins σ H s->t σ H Q->wpAny (model X.prog X.w) X.A (isTrue e X.env (eval e X.env)) (TP X pins σ Q) X.xe s
def PW(X:Cx)(e:Expr)(t:TT):Prop :=
 ∀(whole:Sem Value) (pins:List (Addr×Obj)) (s:Shared) (σ:St) (H:Hp) (Q:Bool->Hp->Prop),Inv X pins σ H s->t σ H Q->wpAny (model X.prog X.w) X.A (isTrue e X.env whole) (TP X pins σ Q) X.xe s
theorem PW.pt{X:Cx}{e:Expr}{t:TT}(h:PW X e t):PT X e t:=h _
def PA(X:Cx)(es:List Expr)(t:TA):Prop :=
 ∀(pos:Pos) (pins:List (Addr×Obj)) (s:Shared) (σ:St) (H:Hp) (Q:List V->Hp->Prop),Inv X pins σ H s->t σ H Q->wpAny (model X.prog X.w) X.A (spliced (backTo pos (starEach es X.env))) (AP X pins σ Q) X.xe s
def PS(X:Cx)(st:Stmt)(t:TS):Prop :=
 ∀(pins:List (Addr×Obj)) (s:Shared) (σ:St) (H:Hp) (D:zkw),Inv X pins σ H s->t D σ H->wpAny (model X.prog X.w) X.A (exec st X.env) (SP X pins D) X.xe s
def PSs(X:Cx)(st:List Stmt)(t:TS):Prop :=
 ∀(pins:List (Addr×Obj)) (s:Shared) (σ:St) (H:Hp) (D:zkw),Inv X pins σ H s->t D σ H->wpAny (model X.prog X.w) X.A (execs st X.env) (SP X pins D) X.xe s
theorem thn{α:Type}{t:Sem α}{Q Q':α->Shared->Prop}{M:Model}{A:Around}{E:Value->Shared->Prop}{s:Shared}(h:wpAny M A t Q E s)(hQ:∀a s,Q a s->Q' a s):wpAny M A t Q' E s:=wpAny_mono h hQ λ_ _ x=>x
section
variable {X:Cx}
def zui(i:Nat):TE:=λσ H Q=>∃v,σ[i]?=some (some v)/\Q v H
def tC(v:V):TE:=λ_ H Q=>Q v H
theorem wu{i:Nat}{x:Str}{pos:Pos}(hN:X.N[i]?=some x)(hv:Vis X.env.scope x)(hd:(x ==("__debug__" : Str))=false:=by decide)(hcd:(x ==("__classdict__" : Str))=false:=by decide):PE X (.Name x pos) (zui i):=by
 intro pins s σ H Q I h;obtain⟨v,e,h⟩:=h;obtain⟨m,hn,hl⟩:=I.loc;obtain⟨u,r,l⟩:=hl i x v hN e hv;have fin:EP X pins σ Q u s:=⟨v,H,I,r,h⟩
 rcases l with⟨hk,hm⟩ |⟨hk,c,hc,hcell⟩
 ·exact wpAny_Name (wpAny_loadName_local I.ok.kind hk hn hm fin) hd
 ·rcases hk with hk|hk
  ·exact wpAny_Name (wpAny_loadName_cell I.ok.kind hk hc hcell fin) hd
  ·exact wpAny_Name (wpAny_loadName_free I.ok.kind hk hc hcell fin hcd) hd
theorem w4{i j pos}:PE X (.Constant (.int i) j pos) (tC (.int i)):=λ_ _ _ H _ I h=>wpAny_Constant_int ⟨.int i,H,I.tok _,⟨_,rfl⟩,h⟩
theorem zuj{b j pos}:PE X (.Constant (.bool b) j pos) (tC (.bl b)):=λ_ _ _ H _ I h=>Constant_bool ⟨.bl b,H,I,rfl,h⟩
theorem zsc{j pos}:PE X (.Constant .none j pos) (tC .non):=λ_ _ _ H _ I h=>Constant_none ⟨.non,H,I,rfl,h⟩
theorem zsd{x j pos}:PE X (.Constant (.str x) j pos) (tC (.str x)):=λ_ _ _ H _ I h=>Calls.Constant_str ⟨.str x,H,I.tok _,⟨_,rfl⟩,h⟩
def Gl(X:Cx)(x:Str):Prop:=X.env.kindOf x=some .globalImplicit
theorem kb{E:Value->Shared->Prop}{pins:List (Addr×Obj)}{s:Shared}{σ:St}{H:Hp}{x:Str}{u:Value}{pos:Pos}{Q:Value->Shared->Prop}(I:Inv X pins σ H s)(hg:Gl X x)(hm:X.mg x=some u)(h:Q u s)
  (hd:(x ==("__debug__" : Str))=false:=by decide):wpAny (model X.prog X.w) X.A (eval (.Name x pos) X.env) Q E s :=
 Calls.Name_function_global I.ok.kind hg (Calls.loadGlobal_global (by rw[I.ok.glob];exact I.mod.glob.keeps I.bk) hm h) hd
theorem kc{E:Value->Shared->Prop}{pins:List (Addr×Obj)}{s:Shared}{σ:St}{H:Hp}{x:Str}{u:Value}{pos:Pos}{Q:Value->Shared->Prop}(I:Inv X pins σ H s)(hg:Gl X x)(hm:X.mg x=none)(hv:bootBuiltins x=some u)(h:Q u s)
  (hn:x ≠ "__name__" := by decide) (hd:(x ==("__debug__" : Str))=false:=by decide):wpAny (model X.prog X.w) X.A (eval (.Name x pos) X.env) Q E s:=by
 obtain⟨mb,h1,h2⟩:=I.mod.blt;exact Calls.Name_function_global I.ok.kind hg (Calls.loadGlobal_builtin (by rw[I.ok.glob];exact I.mod.glob.keeps I.bk) hm (by rw[I.ok.blt];exact h1.keeps I.bk) ((h2 x hn).trans hv) h) hd
theorem xy{x:Str}{v:V}{u:Value}{pos:Pos}(hg:Gl X x)(hm:X.mg x=some u)(r:RelV v u)(hd:(x ==("__debug__" : Str))=false:=by decide):PE X (.Name x pos) (tC v) :=
 λ_ _ _ H _ I h=>kb I hg hm ⟨v,H,I,r,h⟩ hd
theorem vm{x:Str}{v:V}{u:Value}{pos:Pos}(hg:Gl X x)(hm:X.mg x=none)(hv:bootBuiltins x=some u)(r:RelV v u)(hn:x ≠ "__name__" := by decide)(hd:(x ==("__debug__" : Str))=false:=by decide):PE X (.Name x pos) (tC v) :=
 λ_ _ _ H _ I h=>kc I hg hm hv ⟨v,H,I,r,h⟩ hn hd
variable {a b:Expr}{ta tb:TE}{pos:Pos}
variable {tA tB':TT}{rest:List Expr}
def zvz(t u:TT):TT:=λσ H Q=>t σ H λc H1=>if c=true then u σ H1 Q else Q false H1
theorem zpi(ha:PT X a tA):PW X (.BoolOp .And [a] pos) tA:=by
 intro wh pins s σ H Q I h;refine isTrue_and (thn (ha pins s σ H Q I h) λc s1 e=>?_)
 cases c with
 |true=>exact isTrue_and_nil e
 |false=>exact e
theorem zse(ha:PT X a tA)(hb:PW X (.BoolOp .And (b::rest) pos) tB'):PW X (.BoolOp .And (a::b::rest) pos) (zvz tA tB'):=by
 intro wh pins s σ H Q I h;refine isTrue_and (thn (ha pins s σ H _ I h) λc s1 ⟨H1,I1,q1⟩=>?_)
 cases c with
 |true=>exact hb wh pins s1 σ H1 Q I1 q1
 |false=>exact⟨H1,I1,q1⟩
def zuk(ta:TE):TE:=λσ H Q=>ta σ H λx H1=>∃c,x=.bl c/\Q (.bl (!c)) H1
theorem zsf(ha:PE X a ta):PE X (.UnaryOp .Not a pos) (zuk ta):=by
 intro pins s σ H Q I h;refine UnaryOp_ (thn (ha pins s σ H _ I h) λv s1 ⟨x,H1,I1,r1,q1⟩=>?_);obtain⟨c,rfl,q1⟩:=q1
 cases r1;exact not_of (wpAny_truthy_bool ⟨.bl (!c),H1,I1,rfl,q1⟩)
def tIf(t:TT)(ta tb:TE):TE:=λσ H Q=>t σ H λc H1=>if c=true then ta σ H1 Q else tb σ H1 Q
theorem zmi{c:Expr}(hc:PT X c tA)(ha:PE X a ta)(hb:PE X b tb):PE X (.IfExp c a b pos) (tIf tA ta tb):=by
 intro pins s σ H Q I h;refine wpAny_IfExp (thn (hc pins s σ H _ I h) λd s1 ⟨H1,I1,q1⟩=>?_)
 cases d with
 |true=>exact ha pins s1 σ H1 Q I1 q1
 |false=>exact hb pins s1 σ H1 Q I1 q1
end
def SqL(K:PySem.W.Frag)(H:Hp)(a:Addr)(xs:List V):Prop :=
 Rd H a (.lst xs) \/
  ∃(o:Obj) (its:Array Value) (n:Nat),K.lookup a=some o/\o.cls=.type "list" /\ o.dict=none/\o.data=.seq its n/\its.size<=sizeLine/\Vals xs its.toList
def SqT(K:PySem.W.Frag)(H:Hp)(a:Addr)(xs:List V):Prop :=
 Rd H a (.tup xs) \/
  ∃(o:Obj) (its:Array Value) (n:Nat),K.lookup a=some o/\o.cls=.type "tuple" /\ o.dict=none/\o.data=.seq its n/\its.size<=sizeLine/\Vals xs its.toList
def zv0:Value->Option V
 |.none=>some .non
 |.bool b=>some (.bl b)
 |.int i _=>some (.int i)
 |.str x _=>some (.str x)
 |.bytes b _=>some (.byt b)
 |.float b _=>some (.flt b)
 |.ref a=>some (.ref a)
 |.type n=>some (.ty n)
 |_=>none
theorem RelV.abs{x:V}{u:Value}(r:RelV x u):zv0 u=some x:=by
 cases x with
 |non=>cases r;rfl
 |bl _=>cases r;rfl
 |int _=>obtain⟨t,rfl⟩:=r;rfl
 |str _=>obtain⟨t,rfl⟩:=r;rfl
 |byt _=>obtain⟨t,rfl⟩:=r;rfl
 |flt _=>obtain⟨t,rfl⟩:=r;rfl
 |ref _=>cases r;rfl
 |ty _=>cases r;rfl
theorem RelV.inj{x y:V}{u:Value}(r:RelV x u)(q:RelV y u):x=y:=Option.some.inj (r.abs.symm.trans q.abs)
theorem Vals.inj{xs ys:List V}{us:List Value}(h:Vals xs us)(h':Vals ys us):xs=ys:=by
 induction h generalizing ys with
 |nil=>cases h';rfl
 |cons r t ih=>
  cases h' with
  |cons r' t'=>rw[r.inj r',ih t']
section
variable {X:Cx}{pins:List (Addr×Obj)}{σ:St}{H:Hp}{s:Shared}{a:Addr}{xs ys:List V}
theorem SqL.of{K:PySem.W.Frag}(h:H a=some (.lst xs)):SqL K H a xs:=.inl (.inl h)
theorem SqT.of{K:PySem.W.Frag}(h:H a=some (.tup xs)):SqT K H a xs:=.inl (.inl h)
theorem Inv.list(I:Inv X pins σ H s)(h:SqL X.K H a xs):∃its:List Value,Vals xs its/\PlainL s.heap a its.toArray/\xs.length<=sizeLine:=by
 rcases h with h |⟨o,its,n,hk,hc,hd,hs,hz,r⟩
 ·obtain⟨z,its,n,r,e⟩:=h.ok I.hok;exact⟨its,r,⟨_,n,e,rfl,rfl,rfl⟩,z⟩
 ·refine⟨its.toList,r,⟨o,n,I.kIn a o hk,hc,hd,by simpa using hs⟩,?_⟩;have e:=r.length;simp only[Array.length_toList]at e;omega
theorem Inv.tupleD(I:Inv X pins σ H s)(h:SqT X.K H a xs):∃its:List Value,Vals xs its/\TupD s.heap a its.toArray/\xs.length<=sizeLine:=by
 rcases h with h |⟨o,its,n,hk,hc,hd,hs,hz,r⟩
 ·obtain⟨z,its,r,p⟩:=h.ok I.hok;exact⟨its,r,p,z⟩
 ·refine⟨its.toList,r,⟨o,I.kIn a o hk,hc,⟨n,by simpa using hs⟩,hd⟩,?_⟩;have e:=r.length;simp only[Array.length_toList]at e;omega
theorem Inv.tuple(I:Inv X pins σ H s)(h:SqT X.K H a xs):∃its:List Value,Vals xs its/\IsTup s.heap a its.toArray/\xs.length<=sizeLine:=by
 obtain⟨its,r,p,z⟩:=I.tupleD h;exact⟨its,r,p.isTup,z⟩
theorem Inv.list_inj(I:Inv X pins σ H s)(h:SqL X.K H a xs)(h':SqL X.K H a ys):xs=ys:=by
 obtain⟨its,r,⟨o,n,e,_,_,d⟩,_⟩:=I.list h;obtain⟨its',r',⟨o',n',e',_,_,d'⟩,_⟩:=I.list h';rw[e]at e';cases e';rw[d]at d';injection d' with d1 _
 have:its=its':=by simpa using congrArg Array.toList d1
 subst this;exact r.inj r'
theorem Inv.tuple_inj(I:Inv X pins σ H s)(h:SqT X.K H a xs)(h':SqT X.K H a ys):xs=ys:=by
 obtain⟨its,r,⟨o,e,_,n,d⟩,_⟩:=I.tuple h;obtain⟨its',r',⟨o',e',_,n',d'⟩,_⟩:=I.tuple h';rw[e]at e';cases e';rw[d]at d';injection d' with d1 _
 have:its=its':=by simpa using congrArg Array.toList d1
 subst this;exact r.inj r'
end
abbrev Cx.wish(X:Cx)(E:Value->Shared->Prop):Cx:={ X with xe:=E }
abbrev Cx.nox(X:Cx):Cx:=X.wish λ_ _=>False
theorem Cx.Ok.wish{X:Cx}(ok:X.Ok)(E:Value->Shared->Prop):(X.wish E).Ok :=
 ⟨ok.mod,ok.kind,ok.glob,ok.blt,ok.above,ok.inj,ok.has,ok.cab,ok.hd,ok.frames,ok.stk,ok.exf,ok.bs,ok.bsz,ok.noex,ok.exfs,ok.funs,ok.frf⟩
theorem Cx.Ok.unwish{X:Cx}{E:Value->Shared->Prop}(ok:(X.wish E).Ok):X.Ok :=
 ⟨ok.mod,ok.kind,ok.glob,ok.blt,ok.above,ok.inj,ok.has,ok.cab,ok.hd,ok.frames,ok.stk,ok.exf,ok.bs,ok.bsz,ok.noex,ok.exfs,ok.funs,ok.frf⟩
section
variable {X:Cx}{pins:List (Addr×Obj)}{σ:St}{H:Hp}{s:Shared}{E:Value->Shared->Prop}
theorem Inv.wish(I:Inv X pins σ H s)(E:Value->Shared->Prop):Inv (X.wish E) pins σ H s:=⟨I.ok.wish E,I.os,I.bare,I.base,I.loc,I.cell,I.free,I.freeC,I.pin,I.hok,I.len⟩
theorem Inv.unwish(I:Inv (X.wish E) pins σ H s):Inv X pins σ H s:=⟨I.ok.unwish,I.os,I.bare,I.base,I.loc,I.cell,I.free,I.freeC,I.pin,I.hok,I.len⟩
theorem SP.unwish{D:zkw}{f:Flow}{s':Shared}(h:SP (X.wish E) pins D f s'):SP X pins D f s':=by
 cases f with
 |next=>obtain⟨σ',H',I,q⟩:=h;exact⟨σ',H',I.unwish,q⟩
 |brk=>obtain⟨σ',H',I,q⟩:=h;exact⟨σ',H',I.unwish,q⟩
 |cont=>obtain⟨σ',H',I,q⟩:=h;exact⟨σ',H',I.unwish,q⟩
 |ret u=>obtain⟨v,σ',H',I,r,q⟩:=h;exact⟨v,σ',H',I.unwish,r,q⟩
theorem PE.nox{e:Expr}{t:TE}(h:PE X.nox e t):PE X e t:=λpins s σ H Q I hw=>
 wpAny_mono (h pins s σ H Q (I.wish _) hw) (λ_ _ ⟨v,H',I',r,q⟩=>⟨v,H',I'.unwish,r,q⟩) λ_ _ z=>False.elim z
theorem PSs.nox{st:List Stmt}{t:TS}(h:PSs X.nox st t):PSs X st t:=λpins s σ H D I hw=>
 wpAny_mono (h pins s σ H D (I.wish _) hw) (λ_ _ q=>q.unwish) λ_ _ z=>False.elim z
end
section
variable {X:Cx}{st:Stmt}{rest:List Stmt}{t u:TS}{e:Expr}{te:TE}{pos:Pos}
def zul:TS:=λD σ H=>D.nx σ H
def zv1(t u:TS):TS:=λD σ H=>t { D with nx:=u D } σ H
theorem zpj:PSs X [] zul:=λ_ _ σ H _ I h=>wpAny_execs_nil ⟨σ,H,I,h⟩
theorem zau(h1:PS X st t)(h2:PSs X rest u):PSs X (st::rest) (zv1 t u):=by
 intro pins s σ H D I h;refine wpAny_execs_cons (thn (h1 pins s σ H { D with nx:=u D } I h) λf s1 q=>?_)
 cases f with
 |next=>
  obtain⟨σ',H',I',q⟩:=q;exact h2 pins s1 σ' H' D I' q
 |ret v=>exact q
 |brk=>exact q
 |cont=>exact q
theorem ze2(h1:PS X st t):PSs X [st] t:=by
 intro pins s σ H D I h;refine wpAny_execs_cons (thn (h1 pins s σ H D I h) λf s1 q=>?_)
 cases f with
 |next=>exact wpAny_execs_nil q
 |ret v=>exact q
 |brk=>exact q
 |cont=>exact q
theorem Inv.quiet{pins:List (Addr×Obj)}{σ:St}{H:Hp}{s:Shared}(I:Inv X pins σ H s):interactive X.env=false:=by simp[interactive,I.ok.kind]
def zum(te:TE):TS:=λD σ H=>te σ H λ_ H1=>D.nx σ H1
theorem ze3(he:PE X e te)(hs:swapsWith e none pos.line X.env=pure false:=by rfl):PS X (.Expr e pos) (zum te):=by
 intro pins s σ H D I h;exact wpAny_Expr_any (thn (he pins s σ H _ I h) λv s1 ⟨x,H1,I1,r1,q1⟩=>⟨σ,H1,I1,q1⟩) I.quiet hs
def zv2(te:TE):TS:=λD σ H=>te σ H D.rt
theorem zbe(he:PE X e te):PS X (.Return (some e) pos) (zv2 te):=by
 intro pins s σ H D I h;exact wpAny_Return_some (thn (he pins s σ H _ I h) λv s1 ⟨x,H1,I1,r1,q1⟩=>⟨x,σ,H1,I1,r1,q1⟩)
def zv3(c:TT)(t u:TS):TS:=λD σ H=>c σ H λb H1=>if b=true then t D σ H1 else u D σ H1
theorem zun{c:Expr}{a b:List Stmt}{tc:TT}(hc:PT X c tc)(ha:PSs X a t)(hb:PSs X b u):PS X (.If c a b pos) (zv3 tc t u):=by
 intro pins s σ H D I h;refine wpAny_If (thn (hc pins s σ H _ I h) λd s1 ⟨H1,I1,q1⟩=>?_)
 cases d with
 |true=>exact ha pins s1 σ H1 D I1 q1
 |false=>exact hb pins s1 σ H1 D I1 q1
end
abbrev TG:=V->St->Hp->(St->Hp->Prop)->Prop
def PG(X:Cx)(target:Expr)(t:TG):Prop :=
 ∀(pins:List (Addr×Obj)) (s:Shared) (σ:St) (H:Hp) (v:V) (u:Value) (Q:St->Hp->Prop),Inv X pins σ H s->RelV v u->t v σ H Q ->
  wpAny (model X.prog X.w) X.A (assign target X.env u) (λ_ s'=>∃σ' H',Inv X pins σ' H' s'/\Q σ' H') X.xe s
abbrev zsg:=V->V->V->Hp->(Hp->Prop)->Prop
def zuo(X:Cx)(t:zsg):Prop :=
 ∀(pins:List (Addr×Obj)) (s:Shared) (σ:St) (H:Hp) (o i v:V) (ov iv u:Value) (Q:Hp->Prop),Inv X pins σ H s->RelV o ov->RelV i iv->RelV v u->t o i v H Q ->
  wpAny (model X.prog X.w) X.A (setItem ov iv u) (λ_ s'=>∃H',Inv X pins σ H' s'/\Q H') X.xe s
section
variable {X:Cx}{pos:Pos}
def zmj(i:Nat):TG:=λv σ H Q=>Q (σ.set i (some v)) H
def zv4(to ti:TE)(t:zsg):TG:=λv σ H Q=>to σ H λo H1=>ti σ H1 λi H2=>t o i v H2 λH3=>Q σ H3
theorem zmk{o i:Expr}{to ti:TE}{t:zsg}(ho:PE X o to)(hi:PE X i ti)(hs:zuo X t)
  (ha:∀v,assign (.Subscript o i pos) X.env v=(do
   let ov <-holding [v] (eval o X.env)
   let iv <-holding [v,ov] (eval i X.env)
   standAt pos
   holding [v,ov,iv] (setItem ov iv v)
   release [v,ov,iv] []):=by intro _;rfl):PG X (.Subscript o i pos) (zv4 to ti t):=by
 intro pins s σ H v u Q I r h;rw[ha];refine wpAny_bind (wpAny_holding (thn (ho pins s σ H _ I h) λov s1 ⟨x,H1,I1,r1,q1⟩=>?_));refine wpAny_bind (wpAny_holding (thn (hi pins s1 σ H1 _ I1 q1) λiv s2 ⟨y,H2,I2,r2,q2⟩=>?_));refine wpAny_bind (wpAny_standAt (wpAny_bind (wpAny_holding (thn (hs pins s2 σ H2 x y v ov iv u _ I2 r1 r2 r q2) λ_ s3 ⟨H3,I3,q3⟩=>?_))));exact wpAny_release ⟨σ,H3,I3,q3⟩
def zpk(te:TE)(g:TG):TS:=λD σ H=>te σ H λx H1=>g x σ H1 D.nx
theorem zhs{tg e:Expr}{te:TE}{g:TG}(he:PE X e te)(hg:PG X tg g)(hs:swapsWithSole [tg] e pos.line X.env=pure false:=by rfl)(hw:swappedStores [tg] e X.env=pure none:=by rfl)
  (h1:(assignEach [tg] X.env).map (·.2) = [assign tg X.env]:=by rfl):PS X (.Assign [tg] e pos) (zpk te g):=by
 intro pins s σ H D I h;refine wpAny_Assign_stores (thn (he pins s σ H _ I h) λv s1 ⟨x,H1,I1,r1,q1⟩=>?_) hs hw;rw[h1];exact thn (hg pins s1 σ H1 x v _ I1 r1 q1) λ_ s2 q=>q
theorem ze4{i:Nat}{x:Str}{e:Expr}{te:TE}{pos':Pos}(hN:X.N.Nodup)(hi:X.N[i]?=some x)(hx:Loc X.env.scope x)(he:PE X e te)(hs:swapsWith e (some (.Name x pos')) pos.line X.env=pure false:=by rfl)(hf:X.fn x=true\/X.env.scope.names.lookup x=some .local:=by first|exact .inl rfl|exact .inr rfl|assumption):
  PS X (.Assign [.Name x pos'] e pos) (zpk te (zmj i)):=by
 intro pins s σ H D I h;refine wpAny_Assign_Name (thn (he pins s σ H _ I h) λv s1 ⟨y,H1,I1,r1,q1⟩=>?_) hs;exact vz I1 hN hi hx r1 (λs2 I2=>⟨_,H1,I2,q1⟩) hf
def zv5(i j:Nat)(ta:TA):TS:=λD σ H=>ta σ H λvs H1=>∃v w,vs = [v,w]/\D.nx ((σ.set i (some v)).set j (some w)) H1
theorem zsh{i j:Nat}{x y:Str}{a b:Expr}{ta:TA}{px py pt:Pos}{kt k2 pt2}(hc:X.calm=true)(hN:X.N.Nodup)(hi:X.N[i]?=some x)(hj:X.N[j]?=some y)(hij:i≠j)
  (hx:X.env.scope.names.lookup x=some .local) (hy:X.env.scope.names.lookup y=some .local) (ha:PA X [a,b] ta)
  (hw:swappedStores [.Tuple [.Name x px,.Name y py] kt pt] (.Tuple [a,b] k2 pt2) X.env=pure (some [x,y]))
  (hs:swapsWithSole [.Tuple [.Name x px,.Name y py] kt pt] (.Tuple [a,b] k2 pt2) pos.line X.env=pure false:=by rfl) :
  PS X (.Assign [.Tuple [.Name x px,.Name y py] kt pt] (.Tuple [a,b] k2 pt2) pos) (zv5 i j ta):=by
 intro pins s σ H D I h;rw[exec_Assign_arm];refine wpAny_bind (wpAny_standAt ?_);rw[hs];refine wpAny_bind (wpAny_pure ?_);rw[if_neg (by decide)];refine wpAny_bind (Tuple_ (thn (ha _ pins s σ H _ I h) λus s1 ⟨vs,H1,I1,r1,q1⟩=>?_));obtain⟨v,w,e1,q1⟩:=q1;subst e1;obtain⟨u1,u2,rfl,rv,rw'⟩:∃u1 u2,us = [u1,u2]/\RelV v u1/\RelV w u2:=by
  cases r1 with
  |cons p q=>
   cases q with
   |cons p' q'=>
    cases q';exact⟨_,_,rfl,p,p'⟩
 refine wpAny_newObj_type ?_ (by show 2<=sizeLine;decide);have I2:Inv X pins σ H1 { s1 with heap:=s1.heap.push { cls:=.type "tuple",data:=.seq [u1,u2].toArray } }:=I1.kept (t':=s1.toks) λb o e=>Heap.get?_push_of_some _ e;rw[hw];refine wpAny_bind (wpAny_pure ?_);show wpAny (model X.prog X.w) X.A (do rule "assign.swapped-stores";let items <-unpackItems (.ref s1.heap.objs.size) 2 none;assignInOrder [λv=>bindName X.env y v,λv=>bindName X.env x v] items.reverse;pure Flow.next) _ _ _;refine wpAny_bind (wpAny_rule (wpAny_bind (unpackItems_tuple (items:=#[u1,u2]) (I.ok.hd hc) (IsTup.new s1.heap _) λh' hx'=>?_)));have I3:=I2.kept (h':=h') (t':=s1.toks) λb o e=>hx' b o (Nat.ne_of_lt (Heap.lt_size e)) e;show wpAny _ _ (assignInOrder [λv=>bindName X.env y v,λv=>bindName X.env x v] [u2,u1] >>= λ_=>pure Flow.next) _ _ _;refine wpAny_bind (assignInOrder_cons (wpAny_bindName (vz I3 hN hj (.inl hy) rw' (λs2 I4=>?_) (.inr hy))));refine assignInOrder_cons (wpAny_bindName (vz I4 hN hi (.inl hx) rv (λs3 I5=>assignInOrder_nil (wpAny_pure ?_)) (.inr hx)));rw[List.set_comm _ _ (Ne.symm hij)]at I5;exact⟨_,H1,I5,q1⟩
end
section
variable {X:Cx}{pos:Pos}
def zsi(c:TT)(tb:TS):TS:=λD σ H=>∃W:Nat->St->Hp->Prop,(∃m,W m σ H)/\∀m σ H,W m σ H ->
 c σ H λb H1=>if b=true then ∃N:St->Hp->Prop,(∀σ' H',N σ' H'->∃m',m' < m/\W m' σ' H')/\tb { D with nx:=N,ct:=N,bk:=D.nx } σ H1 else D.nx σ H1
theorem zml{c:Expr}{body:List Stmt}{tc:TT}{tb:TS}(hp:PassesOwn (model X.prog X.w) X.A X.env X.xe)(hc:PT X c tc)(hb:PSs X body tb):PS X (.While c body [] pos) (zsi tc tb):=by
 intro pins s σ H D I h;obtain⟨W,⟨m0,w0⟩,turn⟩:=h;refine wpAny_While (codeAny_whileLoop (λn s'=>∃σ' H',Inv X pins σ' H' s'/\W n σ' H') ?_ m0 ⟨σ,H,I,w0⟩);rintro n s1 ⟨σ1,H1,I1,w1⟩;refine wpAny_passesOwn hp (thn (hc pins s1 σ1 H1 _ I1 (turn n σ1 H1 w1)) λb s2 ⟨H2,I2,q2⟩=>?_)
 cases b with
 |true=>
  obtain⟨N,hN,q2⟩:=q2;rw[if_pos rfl];refine wpAny_passesOwn hp (thn (hb pins s2 σ1 H2 _ I2 q2) λf s3 q3=>?_)
  cases f with
  |next=>
   obtain⟨σ3,H3,I3,n3⟩:=q3;obtain⟨m',hm,w3⟩:=hN σ3 H3 n3;exact⟨m',hm,σ3,H3,I3,w3⟩
  |cont=>
   obtain⟨σ3,H3,I3,n3⟩:=q3;obtain⟨m',hm,w3⟩:=hN σ3 H3 n3;exact⟨m',hm,σ3,H3,I3,w3⟩
  |brk=>exact q3
  |ret v=>exact q3
 |false=>
  rw[if_neg Bool.false_ne_true];exact wpAny_execs_nil ⟨σ1,H2,I2,q2⟩
end
structure It where
 go:Nat->Hp->Prop
 yld:Nat->Hp->V->Hp->Prop
 stop:Nat->Hp->Prop
def FpOk(X:Cx)(pins:List (Addr×Obj))(H:Hp)(b:Addr):Prop :=
 H b=none/\b≠X.env.locals/\b∉X.fs/\(b∈X.ex\/X.s₀.heap.objs.size<=b)/\(∀x c,X.env.cells.lookup x=some c->c≠b)/\∀p∈X.pn++pins,p.1≠b
theorem Inv.fpOk{X:Cx}{pins:List (Addr×Obj)}{σ:St}{H H':Hp}{s:Shared}{b:Addr}(I:Inv X pins σ H s)(hb:s.heap.objs.size<=b)(hn:H' b=none):FpOk X pins H' b:=by
 refine⟨hn,Nat.ne_of_gt (Nat.lt_of_lt_of_le I.lt hb),I.nofs hb,.inr (Nat.le_trans I.sz hb),λx c e z=>?_,λp hp z=>?_⟩
 ·obtain⟨v,q⟩:=I.cell x c e;exact absurd (Nat.lt_of_lt_of_le q.lt (by rw[z];exact hb)) (Nat.lt_irrefl _)
 ·exact absurd (Nat.lt_of_lt_of_le (Heap.lt_size (I.pin p hp).1) (by rw[z];exact hb)) (Nat.lt_irrefl _)
structure zf9(P:Program)(w:World)(K:PySem.W.Frag)(tg:Expr)(J:It)(fp:List Addr)(it:Addr)(tn:Nat->Heap->Prop):Prop where
 mem:it∈fp
 obj:∀i h,tn i h->∀b∈fp,∃o,h.get? b=some o/\∀v,o.data ≠ .cell v
 keep:∀i h h',tn i h->(∀b∈fp,∀o,h.get? b=some o->h'.get? b=some o)->tn i h'
 item:∀(X:Cx),X.prog=P->X.w=w->X.K=K->X.calm=true->∀(i:Nat) (pins:List (Addr×Obj)) (s:Shared) (σ:St) (H:Hp) (E:Value->Shared->Prop),Inv X pins σ H s->(∀b∈fp,FpOk X pins H b)->tn i s.heap->J.go i H ->
  wpAny (model P w) X.A (pyNext (.ref it)) (λr s1=>∃u,r=some u /\
   wpAny (model P w) X.A (letOwnedTupleGo tg (.ref it) u) (λ_ s2=>∃x H',Inv X pins σ H' s2/\RelV x u/\J.yld i H x H'/\tn (i+1) s2.heap/\∀b∈fp,H' b=none) E s1) E s
 done:∀(X:Cx),X.prog=P->X.w=w->X.K=K->X.calm=true->∀(i:Nat) (pins:List (Addr×Obj)) (s:Shared) (σ:St) (H:Hp) (E:Value->Shared->Prop),Inv X pins σ H s->(∀b∈fp,FpOk X pins H b)->tn i s.heap->J.stop i H ->
  wpAny (model P w) X.A (pyNext (.ref it)) (λr s1=>r=none/\Inv X pins σ H s1) E s
 self:∀(A:Around) (i:Nat) (s:Shared) (Q:Value->Shared->Prop) (E:Value->Shared->Prop),tn i s.heap->Q (.ref it) s->wpAny (model P w) A (pyIter (.ref it)) Q E s
abbrev TI:=St->Hp->(It->Hp->Prop)->Prop
def PIE(X:Cx)(pins:List (Addr×Obj))(σ:St)(tg:Expr)(R:It->Hp->Prop)(itv:Value)(s2:Shared):Prop :=
 ∃(it:Addr) (fp:List Addr) (tn:Nat->Heap->Prop) (J:It) (H':Hp),itv=.ref it/\Inv X pins σ H' s2/\zf9 X.prog X.w X.K tg J fp it tn/\tn 0 s2.heap/\(∀b∈fp,FpOk X pins H' b)/\R J H'
def PI(X:Cx)(tg iter:Expr)(wi:TI):Prop :=
 ∀(pins:List (Addr×Obj)) (s:Shared) (σ:St) (H:Hp) (R:It->Hp->Prop),Inv X pins σ H s->wi σ H R ->
  wpAny (model X.prog X.w) X.A (eval iter X.env) (λv s1=>wpAny (model X.prog X.w) X.A (pyIter v) (PIE X pins σ tg R) X.xe s1) X.xe s
theorem zmm{M:Model}{A:Around}{E:Value->Shared->Prop}{s:Shared}{tg:Expr}{it:Addr}{u:Value}{o:Obj}{n:String}{vs:Array Value}{Q:Unit->Shared->Prop}(ho:s.heap.get? it=some o)(hc:o.cls=.type n)(hd:o.data=.fields vs)
  (hn : ["enumerate", "zip", "dict_itemiterator", "dict_reverseitemiterator", "odict_iterator", "itertools.zip_longest", "itertools.pairwise"].contains n=false) (hQ:Q () s):wpAny M A (letOwnedTupleGo tg (.ref it) u) Q E s:=by
 unfold letOwnedTupleGo
 cases tg <;> first
  |exact wpAny_pure hQ
  |(cases u <;> first
    |exact wpAny_pure hQ
    |(refine wpAny_bind (wpAny_load ho ?_);rw[hc,hd];show wpAny M A (if (["enumerate", "zip", "dict_itemiterator", "dict_reverseitemiterator", "odict_iterator", "itertools.zip_longest", "itertools.pairwise"].contains n && vs[0]? == some (rawInt _))=true then _ else _) Q E s;rw[if_neg (by intro h;rw[hn,Bool.false_and]at h;cases h)];exact wpAny_pure hQ))
def Itl(K:PySem.W.Frag)(a:Addr):It :=
 ⟨λi H=>∃xs x,SqL K H a xs/\xs[i]?=some x,λi H x H'=>H'=H/\∀xs,SqL K H a xs->xs[i]?=some x,λi H=>∃xs,SqL K H a xs/\xs.length<=i⟩
def Itt(K:PySem.W.Frag)(a:Addr):It :=
 ⟨λi H=>∃xs x,SqT K H a xs/\xs[i]?=some x,λi H x H'=>H'=H/\∀xs,SqT K H a xs->xs[i]?=some x,λi H=>∃xs,SqT K H a xs/\xs.length<=i⟩
def Itr(lo:Int)(n:Nat):It:=⟨λi _=>i<n,λi H x H'=>H'=H/\x=.int (lo+i),λi _=>n<=i⟩
theorem zkx{P:Program}{w:World}{K:PySem.W.Frag}{tg:Expr}(a it:Addr):zf9 P w K tg (Itl K a) [it] it (λi h=>h.IsListIter it a i) where
 mem:=by simp
 obj:=λi h st b hb=>by
  have e:b=it:=by simpa using hb
  subst e;obtain⟨o,e,c,d⟩:=st;exact⟨o,e,λv z=>by rw[d]at z;cases z⟩
 keep:=λi h h' st k=>st.at λo e=>k it (by simp) o e
 item:=by
  intro X hP hw hK hc i pins s σ H E I hf st hg;subst hP hw hK;obtain⟨xs,x,hq,hx⟩:=hg;obtain⟨its,rv,p,hz⟩:=I.list hq;obtain⟨u,hu,ru⟩:=rv.get hx;obtain⟨f0,f1,f2,f3,f4,f5⟩:=hf it (by simp);refine wpAny_pyNext_list_item st p.isList (x:=u) (by simpa using hu) λh' st' sb=>?_;have I1:Inv X pins σ H { s with heap:=h' }:=I.turned (t':=s.toks) (λb o hb e=>(sb.2 b hb).trans e) f0 f1 f3 f4 f5;obtain⟨o,e,c,d⟩:=id st';exact⟨u,rfl,zmm (s:={ s with heap:=h' }) e c d (by decide) ⟨x,H,I1,ru,⟨rfl,λys hy=>by rw[I.list_inj hy hq];exact hx⟩,st',λb hb=>(hf b hb).1⟩⟩
 done:=by
  intro X hP hw hK hc i pins s σ H E I hf st hg;subst hP hw hK;obtain⟨xs,hq,hx⟩:=hg;obtain⟨its,rv,p,hz⟩:=I.list hq;obtain⟨f0,f1,f2,f3,f4,f5⟩:=hf it (by simp);have hl:=rv.length;exact wpAny_pyNext_list_end (I.ok.hd hc) st p.isList (by simp;omega) λh' eb=>⟨rfl,I.turned (t':=s.toks) (λb o hb e=>eb b o hb e) f0 f1 f3 f4 f5⟩
 self:=λ_ _ _ _ _ st h=>wpAny_pyIter_listiter st h
theorem zht{P:Program}{w:World}{K:PySem.W.Frag}{tg:Expr}(a it:Addr):zf9 P w K tg (Itt K a) [it] it (λi h=>h.IsTupleIter it a i) where
 mem:=by simp
 obj:=λi h st b hb=>by
  have e:b=it:=by simpa using hb
  subst e;obtain⟨o,e,c,d⟩:=st;exact⟨o,e,λv z=>by rw[d]at z;cases z⟩
 keep:=λi h h' st k=>st.at λo e=>k it (by simp) o e
 item:=by
  intro X hP hw hK hc i pins s σ H E I hf st hg;subst hP hw hK;obtain⟨xs,x,hq,hx⟩:=hg;obtain⟨its,rv,p,hz⟩:=I.tuple hq;obtain⟨u,hu,ru⟩:=rv.get hx;obtain⟨f0,f1,f2,f3,f4,f5⟩:=hf it (by simp);refine wpAny_pyNext_tuple_item st (show s.heap.IsTuple a its.toArray from p) (x:=u) (by simpa using hu) λh' st' sb=>?_;have I1:Inv X pins σ H { s with heap:=h' }:=I.turned (t':=s.toks) (λb o hb e=>(sb.2 b hb).trans e) f0 f1 f3 f4 f5;obtain⟨o,e,c,d⟩:=id st';exact⟨u,rfl,zmm (s:={ s with heap:=h' }) e c d (by decide) ⟨x,H,I1,ru,⟨rfl,λys hy=>by rw[I.tuple_inj hy hq];exact hx⟩,st',λb hb=>(hf b hb).1⟩⟩
 done:=by
  intro X hP hw hK hc i pins s σ H E I hf st hg;subst hP hw hK;obtain⟨xs,hq,hx⟩:=hg;obtain⟨its,rv,p,hz⟩:=I.tuple hq;obtain⟨f0,f1,f2,f3,f4,f5⟩:=hf it (by simp);have hl:=rv.length;exact wpAny_pyNext_tuple_end (I.ok.hd hc) st (show s.heap.IsTuple a its.toArray from p) (by simp;omega) λh' eb=>⟨rfl,I.turned (t':=s.toks) (λb o hb e=>eb b o hb e) f0 f1 f3 f4 f5⟩
 self:=λ_ _ _ _ _ st h=>wpAny_pyIter_tupleiter st h
theorem zhu{P:Program}{w:World}{K:PySem.W.Frag}{tg:Expr}(it:Addr)(lo:Int)(n:Nat):zf9 P w K tg (Itr lo n) [it] it (λi h=>IsRangeIter h it (lo+(i:Nat) * 1) ((n:Int)-(i:Nat)) 1) where
 mem:=by simp
 obj:=λi h st b hb=>by
  have e:b=it:=by simpa using hb
  subst e;exact⟨_,st,λv z=>by
   have z':Data.fields _=Data.cell v:=z
   cases z'⟩
 keep:=λi h h' st k=>k it (by simp) _ st
 item:=by
  intro X hP hw hK hc i pins s σ H E I hf st hg;subst hP hw hK;obtain⟨f0,f1,f2,f3,f4,f5⟩:=hf it (by simp);have W:=Walks.range (prog:=X.prog) (w:=X.w) (I.ok.hd hc) it lo 1 n;refine W.item i s _ _ hg st λv h' tk hv st' kk=>?_;obtain⟨t,rfl⟩:=hv;have I1:Inv X pins σ H { s with heap:=h',toks:=tk }:=I.turned (λb o hb e=>kk b o (by simpa using hb) e) f0 f1 f3 f4 f5;refine⟨_,rfl,zmm (s:={ s with heap:=h',toks:=tk }) (n := "range_iterator") st' rfl rfl (by decide) ⟨.int (lo+i),H,I1,⟨t,?_⟩,⟨rfl,rfl⟩,st',λb hb=>(hf b hb).1⟩⟩;rw[Int.mul_one]
 done:=by
  intro X hP hw hK hc i pins s σ H E I hf st hg;subst hP hw hK;obtain⟨f0,f1,f2,f3,f4,f5⟩:=hf it (by simp);exact wpAny_pyNext_range_end (I.ok.hd hc) st (by have:n<=i:=hg;omega) λh' eb=>⟨rfl,I.turned (t':=s.toks) (λb o hb e=>eb b o hb e) f0 f1 f3 f4 f5⟩
 self:=λ_ _ _ _ _ st h=>wpAny_pyIter_rangeiter st h
section
variable {X:Cx}{tg:Expr}
theorem zmn{pins:List (Addr×Obj)}{σ:St}{H:Hp}{s:Shared}{R:It->Hp->Prop}{E:Value->Shared->Prop}{lo hi:Int}{t u v:Tok}{tk:Nat}(I:Inv X pins σ H s)(h1 : -(2 ^ 62)<=lo)(h2:lo<2 ^ 62)(h3 : -(2 ^ 62)<=hi)(h4:hi<2 ^ 62)
  (q:R (Itr lo (hi-lo).toNat) H):wpAny (model X.prog X.w) X.A (pyIter (.ref s.heap.objs.size)) (PIE X pins σ tg R) E { s with heap:=s.heap.push { cls:=.type "range",data:=.fields #[.int lo t,.int hi u,.int 1 v] },toks:=tk }:=by
 refine wpAny_pyIter_range (IsRange.new ..) (small_one h1 h2 h3 h4) ?_;have I1:Inv X pins σ H { s with heap:=s.heap.push { cls:=.type "range",data:=.fields #[.int lo t,.int hi u,.int 1 v] },toks:=tk }:=I.kept λb o e=>Heap.get?_push_of_some _ e;refine⟨(s.heap.push { cls:=.type "range",data:=.fields #[.int lo t,.int hi u,.int 1 v] }).objs.size,[(s.heap.push { cls:=.type "range",data:=.fields #[.int lo t,.int hi u,.int 1 v] }).objs.size],_,_,H,rfl,
  I1.kept (t':=tk) λb o e=>Heap.get?_push_of_some _ e,zhu _ lo (hi-lo).toNat,?_,λb hb=>?_,q⟩
 ·have e1:lo+((0:Nat):Int) * 1=lo:=by simp
  have e2:(((hi-lo).toNat:Nat):Int)-((0:Nat):Int)=Builtin.Range.rangeSize lo hi 1:=by rw[rangeSize_one];split <;> omega
  show IsRangeIter _ _ (lo+((0:Nat):Int) * 1) ((((hi-lo).toNat:Nat):Int)-((0:Nat):Int)) 1;rw[e1,e2];exact Heap.get?_push_size _ rfl
 ·have e:b=(s.heap.push { cls:=.type "range",data:=.fields #[.int lo t,.int hi u,.int 1 v] }).objs.size:=by simpa using hb
  subst e;exact I1.fpOk (Nat.le_refl _) (I1.hok.fresh (Nat.le_refl _))
def zup(ta:TA):TI:=λσ H R=>ta σ H λvs H1=>∃j:Int,vs = [.int j]/\-(2 ^ 62)<=j/\j<2 ^ 62/\R (Itr 0 j.toNat) H1
theorem zky{a:Expr}{ta:TA}{p pos:Pos}(hg:Gl X "range")(hm:X.mg "range" = none)(ha:PA X [a] ta)(hs:starEach [a] X.env = [(false,eval a X.env)]:=by rfl):PI X tg (.Call (.Name "range" p) [a] [] pos) (zup ta):=by
 intro pins s σ H R I h;refine Call_ (kc I hg hm boot_range (PyProof.Rows.callWith_type1 (thn (ha pos pins s σ H _ I h) λus s1 ⟨vs,H1,I1,r1,q1⟩=>?_) hs rfl));obtain⟨j,e,q1,q2,q⟩:=q1;subst e
 cases r1 with
 |cons r rr=>
  cases rr;obtain⟨t,rfl⟩:=r;exact call_range_1 (zmn I1 (by omega) (by omega) q1 q2 (by simpa using q))
def zv6(wi:TI)(g:TG)(tb:TS):TS:=λD σ H=>wi σ H λJ H1=>∃W:Nat->Nat->St->Hp->Prop,(∃m,W 0 m σ H1)/\∀i m σ H,W i m σ H ->
 (J.stop i H/\D.nx σ H)\/(J.go i H/\∃N:St->Hp->Prop,(∀σ' H',N σ' H'->∃m',m' < m/\W (i+1) m' σ' H')/\∀x H',J.yld i H x H'->g x σ H' λσ2 H2=>tb { D with nx:=N,ct:=N,bk:=D.nx } σ2 H2)
def zak(fp:List Addr)(h:Heap):List (Addr×Obj):=fp.filterMap λb=>(h.get? b).map λo=>(b,o)
theorem wv{fp:List Addr}{h:Heap}{b:Addr}{o:Obj}(hb:b∈fp)(e:h.get? b=some o):(b,o)∈zak fp h:=List.mem_filterMap.mpr ⟨b,hb,by rw[e];rfl⟩
theorem zkz{fp:List Addr}{h:Heap}{p:Addr×Obj}(hp:p∈zak fp h):p.1∈fp/\h.get? p.1=some p.2:=by
 obtain⟨b,hb,e⟩:=List.mem_filterMap.mp hp
 cases q:h.get? b with
 |none=>rw[q]at e;cases e
 |some o=>
  rw[q]at e;have e':(b,o)=p:=Option.some.inj e;subst e';exact⟨hb,q⟩
theorem Inv.pinned{pins:List (Addr×Obj)}{σ:St}{H:Hp}{s:Shared}{fp:List Addr}(I:Inv X pins σ H s)(hf:∀b∈fp,FpOk X pins H b)(ho:∀b∈fp,∃o,s.heap.get? b=some o/\∀v,o.data ≠ .cell v):Inv X (pins++zak fp s.heap) σ H s :=
 I.pins_of λp hp=>(List.mem_append.mp hp).elim (λz=>I.pin p (List.mem_append_right _ z)) λz=>by
  obtain⟨hb,e⟩:=zkz z;obtain⟨f0,f1,f2,_⟩:=hf p.1 hb;obtain⟨o,e',d⟩:=ho p.1 hb;rw[e]at e';cases e';exact⟨e,f0,f1,f2,d⟩
theorem Inv.unpinned{pins pl:List (Addr×Obj)}{σ:St}{H:Hp}{s:Shared}(I:Inv X (pins++pl) σ H s):Inv X pins σ H s:=I.pins_of λp hp=>I.pin p (List.mem_append_right _ (List.mem_append_left _ hp))
theorem zsj{iter:Expr}{body:List Stmt}{wi:TI}{g:TG}{tb:TS}{pos:Pos}(hp:PassesOwn (model X.prog X.w) X.A X.env X.xe)(hc:X.calm=true)(hi:PI X tg iter wi)(hg:PG X tg g)(hb:PSs X body tb)
  (hs:∀x,foldedSetIterable iter X.env x=pure x:=by intro _;rfl):PS X (.For tg iter body [] pos) (zv6 wi g tb):=by
 intro pins s σ H D I h;refine wpAny_For (thn (hi pins s σ H _ I h) λv s1 h1=>thn h1 λitv s2 h2=>?_) hs;obtain⟨it,fp,tn,J,H2,e,I2,T,st2,f2,W,⟨m0,w0⟩,turn⟩:=h2;subst e
 -- what stays true of the iterator's objects through the loop
 have stat:∀{H':Hp},(∀b∈fp,H' b=none)->∀b∈fp,FpOk X pins H' b:=λhn b hb=>⟨hn b hb,(f2 b hb).2⟩
 refine codeAny_forLoop_any (λn s'=>∃i σ' H',Inv X pins σ' H' s'/\tn i s'.heap/\(∀b∈fp,H' b=none)/\W i n σ' H') ?_ m0 ⟨0,σ,H2,I2,st2,λb hb=>(f2 b hb).1,w0⟩;rintro n s3 ⟨i,σ3,H3,I3,st3,fr3,w3⟩;rcases turn i n σ3 H3 w3 with⟨stop,qn⟩ |⟨go,N,hN,step⟩
 ·refine wpAny_passesOwn hp (thn (T.done X rfl rfl rfl hc i pins s3 σ3 H3 X.xe I3 (stat fr3) st3 stop) λr s4 ⟨hr,I4⟩=>?_);subst hr;exact wpAny_execs_nil ⟨σ3,H3,I4,qn⟩
 ·refine wpAny_passesOwn hp (thn (T.item X rfl rfl rfl hc i pins s3 σ3 H3 X.xe I3 (stat fr3) st3 go) λr s4 ⟨u,hr,h4⟩=>?_);subst hr;refine wpAny_passesOwn hp (thn h4 λ_ s5 ⟨x,H5,I5,r5,y5,st5,fr5⟩=>?_);have I5':=I5.pinned (stat fr5) (T.obj _ _ st5);refine wpAny_passesOwn hp (thn (hg _ s5 σ3 H5 x u _ I5' r5 (step x H5 y5)) λ_ s6 ⟨σ6,H6,I6,q6⟩=>?_);refine wpAny_passesOwn hp (thn (hb _ s6 σ6 H6 _ I6 q6) λf s7 q7=>?_)
  have again:∀{σ7:St}{H7:Hp},Inv X (pins++zak fp s5.heap) σ7 H7 s7->N σ7 H7->∃m,m<n/\∃i σ' H',Inv X pins σ' H' s7/\tn i s7.heap/\(∀b∈fp,H' b=none)/\W i m σ' H':=λ{σ7 H7} I7 n7=>by
   obtain⟨m',hm,w7⟩:=hN σ7 H7 n7;refine⟨m',hm,i+1,σ7,H7,I7.unpinned,T.keep _ _ _ st5 λb hb o e=>(I7.pin (b,o) (List.mem_append_right _ (List.mem_append_right _ (wv hb e)))).1,λb hb=>?_,w7⟩;obtain⟨o,e,d⟩:=T.obj _ _ st5 b hb;exact(I7.pin (b,o) (List.mem_append_right _ (List.mem_append_right _ (wv hb e)))).2.1
  cases f with
  |next=>obtain⟨σ7,H7,I7,n7⟩:=q7;exact again I7 n7
  |cont=>obtain⟨σ7,H7,I7,n7⟩:=q7;exact again I7 n7
  |brk=>obtain⟨σ7,H7,I7,q7⟩:=q7;exact⟨σ7,H7,I7.unpinned,q7⟩
  |ret v=>obtain⟨x7,σ7,H7,I7,r7,q7⟩:=q7;exact⟨x7,σ7,H7,I7.unpinned,r7,q7⟩
end
abbrev R2:=V->V->Hp->VK->Prop
def OpR(X:Cx)(f:Value->Value->Sem Value)(r:R2):Prop :=
 ∀(pins:List (Addr×Obj)) (s:Shared) (σ:St) (H:Hp) (x y:V) (v u:Value) (Q:VK),Inv X pins σ H s->RelV x v->RelV y u->r x y H Q ->
  wpAny (model X.prog X.w) X.A (f v u) (EP X pins σ Q) X.xe s
def UnR(X:Cx)(f:Value->Sem Value)(r:V->Hp->VK->Prop):Prop :=
 ∀(pins:List (Addr×Obj)) (s:Shared) (σ:St) (H:Hp) (x:V) (v:Value) (Q:VK),Inv X pins σ H s->RelV x v->r x H Q ->
  wpAny (model X.prog X.w) X.A (f v) (EP X pins σ Q) X.xe s
def w6(X:Cx)(f:Value)(r:List V->Hp->VK->Prop):Prop :=
 ∀(pins:List (Addr×Obj)) (s:Shared) (σ:St) (H:Hp) (xs:List V) (us:List Value) (Q:VK),Inv X pins σ H s->Vals xs us->r xs H Q ->
  wpAny (model X.prog X.w) X.A (call f us) (EP X pins σ Q) X.xe s
def zv7(X:Cx)(r:V->Hp->(Bool->Hp->Prop)->Prop):Prop :=
 ∀(pins:List (Addr×Obj)) (s:Shared) (σ:St) (H:Hp) (x:V) (v:Value) (Q:Bool->Hp->Prop),Inv X pins σ H s->RelV x v->r x H Q ->
  wpAny (model X.prog X.w) X.A (truthy v) (TP X pins σ Q) X.xe s
def tOp(r:R2)(ta tb:TE):TE:=λσ H Q=>ta σ H λx H1=>tb σ H1 λy H2=>r x y H2 Q
def tUn(r:V->Hp->VK->Prop)(ta:TE):TE:=λσ H Q=>ta σ H λx H1=>r x H1 Q
def rI(C:Int->Int->Prop)(g:Int->Int->V):R2:=λx y H Q=>∃i j,x=.int i/\y=.int j/\C i j/\Q (g i j) H
def rI0(g:Int->Int->V):R2:=λx y H Q=>∃i j,x=.int i/\y=.int j/\Q (g i j) H
def rU(g:Int->V):V->Hp->VK->Prop:=λx H Q=>∃i,x=.int i/\Q (g i) H
section
variable {X:Cx}{a b c:Expr}{ta tb tc:TE}{pos:Pos}
theorem zuq(ha:PE X a ta)(hb:PE X b tb){pins:List (Addr×Obj)}{s:Shared}{σ:St}{H:Hp}{R:V->V->Hp->Prop}(I:Inv X pins σ H s)
  (h:ta σ H λx H1=>tb σ H1 λy H2=>R x y H2) {Q:Value->Shared->Prop}{f:Value->Value->Sem Value}
  (hf:∀v u s2 x y H2,Inv X pins σ H2 s2->RelV x v->RelV y u->R x y H2->wpAny (model X.prog X.w) X.A (f v u) Q X.xe s2) :
  wpAny (model X.prog X.w) X.A (eval a X.env) (λv s₁=>wpAny (model X.prog X.w) X.A (eval b X.env) (λu s₂=>wpAny (model X.prog X.w) X.A (f v u) Q X.xe s₂) X.xe s₁) X.xe s:=by
 refine thn (ha pins s σ H _ I h) λv s1 ⟨x,H1,I1,r1,q1⟩=>?_;refine thn (hb pins s1 σ H1 _ I1 q1) λu s2 ⟨y,H2,I2,r2,q2⟩=>?_;exact hf v u s2 x y H2 I2 r1 r2 q2
theorem zga{op:Operator}{r:R2}(ho:OpR X (binaryOp op) r)(ha:PE X a ta)(hb:PE X b tb):PE X (.BinOp a op b pos) (tOp r ta tb):=by
 intro pins s σ H Q I h;exact wpAny_BinOp (zuq ha hb I h λv u s2 x y H2 I2 rx ry q=>ho pins s2 σ H2 x y v u Q I2 rx ry q)
theorem zri{op:UnaryOp}{r:V->Hp->VK->Prop}(ho:UnR X (unaryOp op) r)(ha:PE X a ta):PE X (.UnaryOp op a pos) (tUn r ta):=by
 intro pins s σ H Q I h;exact UnaryOp_ (thn (ha pins s σ H _ I h) λv s1 ⟨x,H1,I1,r1,q1⟩=>ho pins s1 σ H1 x v Q I1 r1 q1)
theorem opI{f:Value->Value->Sem Value}{C:Int->Int->Prop}{g:Int->Int->Int}
  (rule:∀(i j:Int) (t u:Tok) (s:Shared) (Q:Value->Shared->Prop) (E:Value->Shared->Prop),C i j->Q (.int (g i j) s.toks) { s with toks:=s.toks+1 }->wpAny (model X.prog X.w) X.A (f (.int i t) (.int j u)) Q E s) :
  OpR X f (rI C λi j=>.int (g i j)):=by
 intro pins s σ H x y v u Q I rx ry h;obtain⟨i,j,rfl,rfl,hc,q⟩:=h;obtain⟨t,rfl⟩:=rx;obtain⟨t',rfl⟩:=ry;exact rule i j t t' s _ _ hc ⟨.int (g i j),H,I.tok _,⟨_,rfl⟩,q⟩
theorem zur{f:Value->Value->Sem Value}{g:Int->Int->Int}
  (rule:∀(i j:Int) (t u:Tok) (s:Shared) (Q:Value->Shared->Prop) (E:Value->Shared->Prop),Q (.int (g i j) s.toks) { s with toks:=s.toks+1 }->wpAny (model X.prog X.w) X.A (f (.int i t) (.int j u)) Q E s) :
  OpR X f (rI0 λi j=>.int (g i j)):=by
 intro pins s σ H x y v u Q I rx ry h;obtain⟨i,j,rfl,rfl,q⟩:=h;obtain⟨t,rfl⟩:=rx;obtain⟨t',rfl⟩:=ry;exact rule i j t t' s _ _ ⟨.int (g i j),H,I.tok _,⟨_,rfl⟩,q⟩
theorem zsk{f:Value->Value->Sem Value}{g:Int->Int->Bool}
  (rule:∀(i j:Int) (t u:Tok) (s:Shared) (Q:Value->Shared->Prop) (E:Value->Shared->Prop),Q (.bool (g i j)) s->wpAny (model X.prog X.w) X.A (f (.int i t) (.int j u)) Q E s) :
  OpR X f (rI0 λi j=>.bl (g i j)):=by
 intro pins s σ H x y v u Q I rx ry h;obtain⟨i,j,rfl,rfl,q⟩:=h;obtain⟨t,rfl⟩:=rx;obtain⟨t',rfl⟩:=ry;exact rule i j t t' s _ _ ⟨.bl (g i j),H,I,rfl,q⟩
def zsl(i j:Int):Prop:=0<=j/\j<=1000000/\i.natAbs<2 ^ 64
def CMul(i j:Int):Prop:=(-(2 ^ 64)<i/\i<2 ^ 64)\/(-(2 ^ 64)<j/\j<2 ^ 64)
theorem CMul.ok{i j:Int}(h:CMul i j):IntMulOk i j:=by
 rcases h with⟨h1,h2⟩ |⟨h1,h2⟩
 ·exact .of_left (intBits_le_64 h1 h2)
 ·exact .of_right (intBits_le_64 h1 h2)
theorem zmo:OpR X (binaryOp .Add) (rI0 λi j=>.int (i+j)):=zur λ_ _ _ _ _ _ _ q=>add_int q
theorem zsm:OpR X (binaryOp .Sub) (rI0 λi j=>.int (i-j)):=zur λ_ _ _ _ _ _ _ q=>sub_int q
theorem zsn:OpR X (binaryOp .Mult) (rI CMul λi j=>.int (i * j)):=opI λ_ _ _ _ _ _ _ hc q=>mul_int q hc.ok
theorem zhv:OpR X (binaryOp .Mod) (rI (λ_ j=>0<j) λi j=>.int (i % j)):=opI λi j _ _ _ _ _ hc q=>by
 have h1:(0:Int)<j:=hc;exact mod_int' (by omega) (by rw[Int.fmod_eq_emod_of_nonneg i (by omega)];exact q)
theorem zso:OpR X (binaryOp .Pow) (rI zsl λi j=>.int (i ^ j.toNat)):=opI λ_ _ _ _ _ _ _ hc q=>pow_int_small hc.1 hc.2.1 hc.2.2 q
theorem unI{f:Value->Sem Value}{g:Int->Int}
  (rule:∀(i:Int) (t:Tok) (s:Shared) (Q:Value->Shared->Prop) (E:Value->Shared->Prop),Q (.int (g i) s.toks) { s with toks:=s.toks+1 }->wpAny (model X.prog X.w) X.A (f (.int i t)) Q E s) :
  UnR X f (rU λi=>.int (g i)):=by
 intro pins s σ H x v Q I rx h;obtain⟨i,rfl,q⟩:=h;obtain⟨t,rfl⟩:=rx;exact rule i t s _ _ ⟨.int (g i),H,I.tok _,⟨_,rfl⟩,q⟩
theorem zmp:UnR X (unaryOp .USub) (rU λi=>.int (-i)):=unI λ_ _ _ _ _ q=>neg_int q
end
def zsp:V->V->Bool
 |.non,.non=>true|.non,.int _=>true|.int _,.non=>true|.non,.bl _=>true|.bl _,.non=>true|.non,.str _=>true|.str _,.non=>true
 |.int _,.int _=>true|.bl _,.bl _=>true|.str _,.str _=>true|.byt _,.byt _=>true
 |.int _,.str _=>true|.str _,.int _=>true|.bl _,.str _=>true|.str _,.bl _=>true
 |_,_=>false
def rEq:R2:=λx y H Q=>zsp x y=true/\Q (.bl (decide (x=y))) H
def rNe:R2:=λx y H Q=>zsp x y=true/\Q (.bl (!decide (x=y))) H
theorem zjg{i j:Int}:decide (V.int i=V.int j)=(i == j):=by
 rw[Bool.eq_iff_iff];simp
theorem zmq{i j:Bool}:decide (V.bl i=V.bl j)=(i == j):=by
 rw[Bool.eq_iff_iff];simp
theorem zjh{i j:Str}:decide (V.str i=V.str j)=(i == j):=by
 rw[Bool.eq_iff_iff];simp
theorem zji{i j:Array UInt8}:decide (V.byt i=V.byt j)=(i.toList == j.toList):=by
 rw[Bool.eq_iff_iff]
 cases i
 cases j;simp
section
variable {X:Cx}{a b c:Expr}{ta tb tc:TE}{pos:Pos}
theorem yr{pins:List (Addr×Obj)}{σ:St}{H:Hp}{s:Shared}{Q:VK}{k k':Bool}(I:Inv X pins σ H s)(q:Q (.bl k) H)(e:k=k'):EP X pins σ Q (.bool k') s:=by
 subst e;exact⟨.bl k,H,I,rfl,q⟩
theorem zmr:OpR X (compareOp .Eq) rEq:=by
 intro pins s σ H x y v u Q I rx ry h;obtain⟨hs,q⟩:=h
 cases x with
 |non=>
  cases rx
  cases y with
  |non=>cases ry;exact PySem.EqNone.eq_none_none (yr I q (by simp))
  |bl j=>cases ry;exact PySem.EqNone.eq_none_bool (yr I q (by simp))
  |int j=>obtain⟨t',rfl⟩:=ry;exact PySem.EqNone.eq_none_int (yr I q (by simp))
  |str j=>obtain⟨t',rfl⟩:=ry;exact PySem.EqNone.eq_none_str (yr I q (by simp))
  |_=>exact absurd (show false=true from hs) Bool.false_ne_true
 |bl i=>
  cases rx
  cases y with
  |non=>cases ry;exact PySem.EqNone.eq_bool_none (yr I q (by simp))
  |bl j=>cases ry;exact eq_bool (yr I q zmq)
  |str j=>obtain⟨t',rfl⟩:=ry;exact PySem.EqMixed.eq_bool_str (yr I q (by simp))
  |_=>exact absurd (show false=true from hs) Bool.false_ne_true
 |int i=>
  obtain⟨t,rfl⟩:=rx
  cases y with
  |non=>cases ry;exact PySem.EqNone.eq_int_none (yr I q (by simp))
  |int j=>obtain⟨t',rfl⟩:=ry;exact eq_int (yr I q zjg)
  |str j=>obtain⟨t',rfl⟩:=ry;exact PySem.EqMixed.eq_int_str (yr I q (by simp))
  |_=>exact absurd (show false=true from hs) Bool.false_ne_true
 |str i=>
  obtain⟨t,rfl⟩:=rx
  cases y with
  |non=>cases ry;exact PySem.EqNone.eq_str_none (yr I q (by simp))
  |bl j=>cases ry;exact PySem.EqMixed.eq_str_bool (yr I q (by simp))
  |int j=>obtain⟨t',rfl⟩:=ry;exact PySem.EqMixed.eq_str_int (yr I q (by simp))
  |str j=>obtain⟨t',rfl⟩:=ry;exact eq_str (yr I q zjh)
  |_=>exact absurd (show false=true from hs) Bool.false_ne_true
 |byt i=>
  obtain⟨t,rfl⟩:=rx
  cases y with
  |byt j=>obtain⟨t',rfl⟩:=ry;exact PySem.W.eq_bytes (yr I q zji)
  |_=>exact absurd (show false=true from hs) Bool.false_ne_true
 |_=>cases y <;> exact absurd (show false=true from hs) Bool.false_ne_true
theorem zrj:OpR X (compareOp .NotEq) rNe:=by
 intro pins s σ H x y v u Q I rx ry h;obtain⟨hs,q⟩:=h
 cases x with
 |non=>
  cases rx
  cases y with
  |non=>cases ry;exact PySem.EqNone.ne_none_none (yr I q (by simp))
  |bl j=>cases ry;exact PySem.EqNone.ne_none_bool (yr I q (by simp))
  |int j=>obtain⟨t',rfl⟩:=ry;exact PySem.EqNone.ne_none_int (yr I q (by simp))
  |str j=>obtain⟨t',rfl⟩:=ry;exact PySem.EqNone.ne_none_str (yr I q (by simp))
  |_=>exact absurd (show false=true from hs) Bool.false_ne_true
 |bl i=>
  cases rx
  cases y with
  |non=>cases ry;exact PySem.EqNone.ne_bool_none (yr I q (by simp))
  |bl j=>cases ry;exact ne_bool (yr I q (congrArg not zmq))
  |str j=>obtain⟨t',rfl⟩:=ry;exact PySem.EqMixed.ne_bool_str (yr I q (by simp))
  |_=>exact absurd (show false=true from hs) Bool.false_ne_true
 |int i=>
  obtain⟨t,rfl⟩:=rx
  cases y with
  |non=>cases ry;exact PySem.EqNone.ne_int_none (yr I q (by simp))
  |int j=>obtain⟨t',rfl⟩:=ry;exact ne_int (yr I q (congrArg not zjg))
  |str j=>obtain⟨t',rfl⟩:=ry;exact PySem.EqMixed.ne_int_str (yr I q (by simp))
  |_=>exact absurd (show false=true from hs) Bool.false_ne_true
 |str i=>
  obtain⟨t,rfl⟩:=rx
  cases y with
  |non=>cases ry;exact PySem.EqNone.ne_str_none (yr I q (by simp))
  |bl j=>cases ry;exact PySem.EqMixed.ne_str_bool (yr I q (by simp))
  |int j=>obtain⟨t',rfl⟩:=ry;exact PySem.EqMixed.ne_str_int (yr I q (by simp))
  |str j=>obtain⟨t',rfl⟩:=ry;exact ne_str (yr I q (congrArg not zjh))
  |_=>exact absurd (show false=true from hs) Bool.false_ne_true
 |byt i=>
  obtain⟨t,rfl⟩:=rx
  cases y with
  |byt j=>obtain⟨t',rfl⟩:=ry;exact PySem.W.ne_bytes (yr I q (congrArg not zji))
  |_=>exact absurd (show false=true from hs) Bool.false_ne_true
 |_=>cases y <;> exact absurd (show false=true from hs) Bool.false_ne_true
theorem zus:OpR X (compareOp .Lt) (rI0 λi j=>.bl (decide (i<j))):=zsk λ_ _ _ _ _ _ _ q=>lt_int q
theorem zrk:OpR X (compareOp .Gt) (rI0 λi j=>.bl (decide (j<i))):=zsk λ_ _ _ _ _ _ _ q=>gt_int q
theorem zut:OpR X (compareOp .GtE) (rI0 λi j=>.bl (decide (j<=i))):=zsk λ_ _ _ _ _ _ _ q=>ge_int q
theorem zsq:OpR X (compareOp .Is) (λx y H Q=>y=.non/\Q (.bl (decide (x=.non))) H):=by
 intro pins s σ H x y v u Q I rx ry h;obtain⟨rfl,q⟩:=h
 cases ry;refine is_none_gen (yr I q ?_)
 cases x <;> first
  |(cases rx;rfl)
  |(obtain⟨t,rfl⟩:=rx;rfl)
theorem yn(b:Expr){op:CmpOp}(h:op ≠ .In:=by decide)(h2:op ≠ .NotIn:=by decide):behindInMarks op b=false:=by
 have e1:(op == CmpOp.In)=false:=by cases op <;> first|rfl|exact absurd rfl h
 have e2:(op == CmpOp.NotIn)=false:=by cases op <;> first|rfl|exact absurd rfl h2
 cases b <;> simp[behindInMarks,e1,e2]
def zuu(t:TE):TT:=λσ H Q=>t σ H λx H'=>∃k,x=.bl k/\Q k H'
theorem zjj{op:CmpOp}{r:R2}(ho:OpR X (compareOp op) r)(ha:PE X a ta)(hb:PE X b tb)(hm:behindInMarks op b=false):PT X (.Compare a [op] [b] pos) (zuu (tOp r ta tb)):=by
 intro pins s σ H Q I h;refine wpAny_isTrue_Compare1 (thn (ha pins s σ H _ I h) λv s1 ⟨x,H1,I1,r1,q1⟩=>thn (hb pins s1 σ H1 _ I1 q1) λu s2 ⟨y,H2,I2,r2,q2⟩=>
  thn (ho pins s2 σ H2 x y v u _ I2 r1 r2 q2) λc s3 ⟨z,H3,I3,r3,k,e,q3⟩=>?_) hm
 subst e
 cases r3;exact wpAny_truthy_bool ⟨H3,I3,q3⟩
def zsr(K:PySem.W.Frag)(x:V)(H:Hp)(k:Bool):Prop :=
 match x with
 |.non=>k=false
 |.bl b=>k=b
 |.int i=>k=(i != 0)
 |.str y=>y.length<=sizeLine/\k=((y.length:Int) != 0)
 |.byt y=>y.size<=sizeLine/\k=((y.size:Int) != 0)
 |.ref p=>(∃xs,SqL K H p xs/\k = !xs.isEmpty)\/(∃xs,SqT K H p xs/\k = !xs.isEmpty)\/∃kvs,H p=some (.dK kvs)/\k = !kvs.isEmpty
 |_=>False
theorem zhw{κ:Type}{kvs:List (κ×V)}{vs:List (κ×Value)}(r:KV kvs vs):(!vs.isEmpty) = !kvs.isEmpty:=by
 cases r <;> rfl
theorem zce{xs:List V}{its:List Value}(r:Vals xs its):(!its.toArray.isEmpty) = !xs.isEmpty:=by
 cases r <;> simp
theorem zal:(sizeLine:Nat)<2 ^ 63:=by rw[sizeLine_eq];decide
theorem zss:zv7 X (λx H Q=>∃k,zsr X.K x H k/\Q k H):=by
 intro pins s σ H x v Q I rx h;obtain⟨k,e,q⟩:=h;have hl:=zal;have hs:sizeLine=16777216:=sizeLine_eq
 cases x with
 |non=>
  cases rx;have e':k=false:=e;subst e';exact truthy_none ⟨H,I,q⟩
 |bl b=>
  cases rx;have e':k=b:=e;subst e';exact wpAny_truthy_bool ⟨H,I,q⟩
 |int i=>
  obtain⟨t,rfl⟩:=rx;have e':k=(i != 0):=e;subst e';exact PySem.P.truthy_int ⟨H,I,q⟩
 |str y=>
  obtain⟨t,rfl⟩:=rx;obtain⟨hy,e'⟩:y.length<=sizeLine/\k=((y.length:Int) != 0):=e;subst e';exact PySem.P.truthy_str (by omega) ⟨H,I.tok _,q⟩
 |byt y=>
  obtain⟨t,rfl⟩:=rx;obtain⟨hy,e'⟩:y.size<=sizeLine/\k=((y.size:Int) != 0):=e;subst e';exact PySem.W.truthy_bytes (by omega) ⟨H,I.tok _,q⟩
 |ref p=>
  cases rx;have e':(∃xs,SqL X.K H p xs/\k = !xs.isEmpty)\/(∃xs,SqT X.K H p xs/\k = !xs.isEmpty)\/∃kvs,H p=some (.dK kvs)/\k = !kvs.isEmpty:=e;rcases e' with⟨xs,hx,e'⟩ |⟨xs,hx,e'⟩ |⟨kvs,hx,e'⟩
  ·subst e';obtain⟨its,r,pl,hz⟩:=I.list hx;have hlen:=r.length;exact wpAny_truthy_list pl.isList (by simp only[List.size_toArray];omega) ⟨H,I.tok _,by rw[zce r];exact q⟩
  ·subst e';obtain⟨its,r,pl,hz⟩:=I.tuple hx;have hlen:=r.length;exact truthy_tuple pl (by simp only[List.size_toArray];omega) ⟨H,I.tok _,by rw[zce r];exact q⟩
  ·subst e';obtain⟨hz,hS,vs,r,m⟩:kvs.length<=sizeLine/\(p == sysModules)=false/\∃vs,KV kvs vs/\s.heap.DictOf (vk X.prog X.w) p vs:=I.hok p _ hx;have hlen:kvs.length=vs.length:=Paired.length r;exact wpAny_truthy_dict hS m (by omega) ⟨H,I.tok _,by rw[zhw r];exact q⟩
 |_=>exact(show False from e).elim
theorem zms(ha:PE X a ta)(he:∀whole,isTrue a X.env whole=(do let v <-whole;standAt a.pos;holding [v] (truthy v))):
  PT X a (λσ H Q=>ta σ H λx H'=>∃k,zsr X.K x H' k/\Q k H'):=by
 intro pins s σ H Q I h;exact isTrue_plain (thn (ha pins s σ H _ I h) λv s1 ⟨x,H1,I1,r1,q1⟩=>zss pins s1 σ H1 x v Q I1 r1 q1) (he _)
theorem zhx:OpR X (binaryOp .Add) (λx y H Q=>∃i j,x=.str i/\y=.str j/\i.length+j.length<=sizeLine/\Q (.str (i++j)) H):=by
 intro pins s σ H x y v u Q I rx ry h;obtain⟨i,j,rfl,rfl,hz,q⟩:=h;obtain⟨t,rfl⟩:=rx;obtain⟨t',rfl⟩:=ry;exact add_str (λt' tk=>⟨.str (i++j),H,I.tok _,⟨_,rfl⟩,q⟩) hz
theorem zcf{x:V}{us:List Value}(r:Vals [x] us):∃u,us = [u]/\RelV x u:=by
 cases r with
 |cons r1 r2=>cases r2;exact⟨_,rfl,r1⟩
theorem zuv{x y:V}{us:List Value}(r:Vals [x,y] us):∃u w',us = [u,w']/\RelV x u/\RelV y w':=by
 cases r with
 |cons r1 r2=>
  cases r2 with
  |cons r3 r4=>cases r4;exact⟨_,_,rfl,r1,r3⟩
theorem zk0(hc:X.calm=true):w6 X (.builtin "max") (λxs H Q=>∃i j,xs = [.int i,.int j]/\Q (.int (if j > i then j else i)) H):=by
 intro pins s σ H xs us Q I r h;obtain⟨i,j,rfl,q⟩:=h;obtain⟨u,w',rfl,⟨t,rfl⟩,⟨t',rfl⟩⟩:=zuv r;refine max_two_ints (I.ok.hd hc) λh' tk k=>⟨_,H,I.kept k,?_,q⟩
 by_cases hj:j > i
 ·rw[if_pos hj,if_pos hj];exact⟨_,rfl⟩
 ·rw[if_neg hj,if_neg hj];exact⟨_,rfl⟩
theorem zk1:w6 X (.type "int") (λxs H Q=>(∃i,xs = [.int i]/\Q (.int i) H)\/∃k,xs = [.bl k]/\Q (.int (if k then 1 else 0)) H):=by
 intro pins s σ H xs us Q I r h;rcases h with⟨i,rfl,q⟩ |⟨k,rfl,q⟩
 ·obtain⟨u,rfl,t,rfl⟩:=zcf r;exact call_int_int ⟨.int i,H,I,⟨_,rfl⟩,q⟩
 ·obtain⟨u,rfl,r1⟩:=zcf r
  cases r1;exact call_int_bool ⟨.int (if k then 1 else 0),H,I.tok _,⟨_,rfl⟩,q⟩
theorem ze5:w6 X (.type "str") (λxs H Q=>∃i,xs = [.int i]/\i.natAbs.log2<1920/\Q (.str (toString i)) H):=by
 intro pins s σ H xs us Q I r h;obtain⟨i,rfl,hz,q⟩:=h;obtain⟨u,rfl,t,rfl⟩:=zcf r;exact PySem.P.str_of_int hz ⟨.str _,H,I.tok _,⟨_,rfl⟩,q⟩
def zv8(K:PySem.W.Frag)(x:V)(H:Hp)(n:Nat):Prop :=
 match x with
 |.str y=>y.length<=sizeLine/\n=y.length
 |.byt y=>y.size<=sizeLine/\n=y.size
 |.ref p=>(∃xs,SqL K H p xs/\n=xs.length)\/∃xs,SqT K H p xs/\n=xs.length
 |_=>False
theorem zmt:w6 X (.builtin "len") (λxs H Q=>∃x n,xs = [x]/\zv8 X.K x H n/\Q (.int n) H):=by
 intro pins s σ H xs us Q I r h;obtain⟨x,n,rfl,e,q⟩:=h;obtain⟨u,rfl,rx⟩:=zcf r;have hl:=zal;have hs:sizeLine=16777216:=sizeLine_eq
 cases x with
 |str y=>
  obtain⟨t,rfl⟩:=rx;obtain⟨hy,e'⟩:y.length<=sizeLine/\n=y.length:=e;subst e';exact len_str (by omega) ⟨.int _,H,I.tok _,⟨_,rfl⟩,q⟩
 |byt y=>
  obtain⟨t,rfl⟩:=rx;obtain⟨hy,e'⟩:y.size<=sizeLine/\n=y.size:=e;subst e';exact PySem.W.len_bytes (by omega) ⟨.int _,H,I.tok _,⟨_,rfl⟩,q⟩
 |ref p=>
  cases rx;have e':(∃xs,SqL X.K H p xs/\n=xs.length)\/∃xs,SqT X.K H p xs/\n=xs.length:=e;rcases e' with⟨xs,hx,e'⟩ |⟨xs,hx,e'⟩
  ·subst e';obtain⟨its,r',pl,hz⟩:=I.list hx;have hlen:=r'.length;exact Calls.call_len_list pl.isList (by simp only[List.size_toArray];omega) ⟨.int xs.length,H,I.tok _,⟨_,by simp only[List.size_toArray];rw[hlen]⟩,q⟩
  ·subst e';obtain⟨its,r',pl,hz⟩:=I.tuple hx;have hlen:=r'.length;exact len_tuple pl (by simp only[List.size_toArray];omega) ⟨.int xs.length,H,I.tok _,⟨_,by simp only[List.size_toArray];rw[hlen]⟩,q⟩
 |_=>exact(show False from e).elim
end
theorem zk2{h:Heap}{dx:Addr}{mA:Str->Option Value}(n:h.Ns1 dx mA):∃od,h.get? dx=some od/\∀name,PySem.W.lookIn name od=some (mA name):=by
 obtain⟨o,es,ep,ho,hd,hk,_,hm⟩:=n;refine⟨o,ho,λname=>?_⟩;have e:=hm name;unfold nsFind findBy at e;rw[<-Array.find?_toList]at e;unfold PySem.W.lookIn;rw[hd];dsimp only
 split
 ·rename_i y q
  rw[q]at e;exact congrArg some e
 ·rename_i q
  rw[q]at e;have a:es.toList.any (·.refKey)=false:=by
   rw[List.any_eq_false];intro y hy;obtain⟨z,t,hkey⟩:=hk y (Array.mem_toList_iff.mp hy);simp[DictEntry.refKey,hkey]
  have a':¬ es.toList.any (·.refKey)=true:=by rw[a];exact Bool.false_ne_true
  rw[if_neg a'];exact congrArg some e
section
variable {X:Cx}{pins:List (Addr×Obj)}{σ:St}{H:Hp}{s:Shared}{a C dx:Addr}{fs:List (Str×V)}{f:Str}{v:V}{A:Around}{E:Value->Shared->Prop}
theorem zpl{prog:Program}{w:World}{env:Env}{e:Expr}{f:Str}{pos:Pos}{s:Shared}{Q:Value->Shared->Prop}(hb:attributeBase e f env (eval e env)=eval e env)
  (h:wpAny (model prog w) A (eval e env) (λo s₁=>wpAny (model prog w) A (getAttr o f true) Q E s₁) E s):wpAny (model prog w) A (eval (.Attribute e f pos) env) Q E s :=
 Attribute_any_ h (by rw[arm_eval_Attribute,hb])
end
structure Room(k:Nat)(A:Around):Prop where
 hd:A.handled=none
 dp:A.depth+3 * k+5<recursionLimit
 un:A.units+16 * k+200<cLine
 gd:A.guards=some []
theorem Room.mono{j k:Nat}{A:Around}(r:Room k A)(h:j<=k):Room j A:=⟨r.hd,by have:=r.dp;omega,by have:=r.un;omega,r.gd⟩
theorem Room.deeper{k:Nat}{A:Around}(r:Room (k+1) A)(env:Env):Room k (A.deeper env) :=
 ⟨r.hd,by have:=r.dp;show A.depth+1+3 * k+5<_;omega,by have:=r.un;show A.units+3+16 * k+200<_;omega,r.gd⟩
theorem Room.in1{k:Nat}{A:Around}(r:Room (k+1) A):Room k A.in1 :=
 ⟨r.hd,by have:=r.dp;show A.depth+3 * k+5<_;omega,by have:=r.un;show A.units+1+16 * k+200<_;omega,r.gd⟩
theorem zhy{A:Around}{C:Addr}{us:List Value}{kw:List (Str×Value)}:(A.under (.builtin "type.__call__" ⟨.ref C::us,kw⟩)).depth=A.depth+1:=by
 first|rfl|simp[Around.under,Code.weight,Code.isCreation,Code.isGuard,Code.isCaller,Code.frames,Code.isFrame,guardIds]
theorem zhz{A:Around}{C:Addr}{us:List Value}{kw:List (Str×Value)}:(A.under (.builtin "type.__call__" ⟨.ref C::us,kw⟩)).units=A.units+1:=by
 first|rfl|simp[Around.under,Code.cUnits,Code.frames,Code.isFrame]
theorem Room.make{k:Nat}{A:Around}(r:Room (k+1) A)(C:Addr)(us:List Value)(kw:List (Str×Value)):Room k (A.under (.builtin "type.__call__" ⟨.ref C::us,kw⟩)) :=
 ⟨r.hd,by have:=r.dp;rw[zhy];omega,by have:=r.un;rw[zhz];omega,by first|exact r.gd |(simp[Around.under,Code.isGuard,guardIds];exact r.gd)⟩
theorem Room.depth{k:Nat}{A:Around}(r:Room k A):A.depth<recursionLimit:=by have:=r.dp;omega
theorem Room.units{k:Nat}{A:Around}(r:Room k A):A.units+64<cLine:=by have:=r.un;omega
def zv9:TA:=λ_ H Q=>Q [] H
def zuw(ta:TE)(tr:TA):TA:=λσ H Q=>ta σ H λx H1=>tr σ H1 λxs H2=>Q (x::xs) H2
section
variable {X:Cx}{e:Expr}{es:List Expr}{te:TE}{t:TA}{pos:Pos}
theorem wb:PA X [] zv9:=λ_ _ _ _ H Q I h=>Calls.spliced_nil ⟨[],H,I,.nil,h⟩
theorem yo(ha:PE X e te)(hr:PA X es t)(hs:starEach (e::es) X.env=(false,eval e X.env)::starEach es X.env:=by rfl):PA X (e::es) (zuw te t):=by
 intro pos pins s σ H Q I h;rw[hs];show wpAny _ _ (spliced ((false,eval e X.env)::backTo pos (starEach es X.env))) _ _ s;refine Calls.spliced_cons (thn (ha pins s σ H _ I h) λu s1 ⟨x,H1,I1,r1,q1⟩=>?_);exact thn (hr pos pins s1 σ H1 _ I1 q1) λus s2 ⟨xs,H2,I2,r2,q2⟩=>⟨x::xs,H2,I2,.cons r1 r2,q2⟩
def zwa(t:TA):TE:=λσ H Q=>t σ H λxs H1=>xs.length<=sizeLine/\∀p,H1 p=none->Q (.ref p) (upd H1 p (.tup xs))
def zwb(t:TA):TE:=λσ H Q=>t σ H λxs H1=>xs.length<=sizeLine/\∀p,H1 p=none->Q (.ref p) (upd H1 p (.lst xs))
theorem zmu{x1}(h:PA X es t):PE X (.Tuple es x1 pos) (zwa t):=by
 intro pins s σ H Q I hq;refine wpAny_Tuple_spliced (thn (h pos pins s σ H _ I hq) λus s1 ⟨xs,H1,I1,r,z,q⟩=>⟨by rw[<-r.length];exact z,?_⟩);have hf:H1 s1.heap.objs.size=none:=I1.hok.fresh (Nat.le_refl _);refine⟨.ref s1.heap.objs.size,upd H1 s1.heap.objs.size (.tup xs),I1.laid (t':=s1.toks) (λb u e=>Heap.get?_push_of_some _ e) (Nat.le_refl _) ?_,rfl,q _ hf⟩;exact⟨z,us,r,⟨_,Heap.get?_push_size _ rfl,rfl,⟨_,rfl⟩,rfl⟩⟩
theorem zh0(h:PA X es t):PE X (.List es pos) (zwb t):=by
 intro pins s σ H Q I hq;refine wpAny_List_spliced (thn (h pos pins s σ H _ I hq) λus s1 ⟨xs,H1,I1,r,z,q⟩=>⟨by rw[<-r.length];exact z,?_⟩);have hf:H1 s1.heap.objs.size=none:=I1.hok.fresh (Nat.le_refl _);refine⟨.ref s1.heap.objs.size,upd H1 s1.heap.objs.size (.lst xs),I1.laid (t':=s1.toks) (λb u e=>Heap.get?_push_of_some _ e) (Nat.le_refl _) ?_,rfl,q _ hf⟩;exact⟨z,us,0,r,Heap.get?_push_size _ rfl⟩
end
abbrev Sp:=List V->Hp->VK->XK->Prop
abbrev CXT:=List Env->Hp->Shared->XK->Value->Shared->Prop
structure Env0(P:Program)(w:World)(K:PySem.W.Frag)(mg:Str->Option Value)(base:Heap)(A:Around)(outer:List Env)(s:Shared)(H:Hp):Prop where
 frames:A.frames=some outer
 mod:Mod K mg base
 bs:∀b o,base.get? b=some o->s.heap.get? b=some o/\H b=none
 bsz:base.objs.size<=s.heap.objs.size
 funs:s.heap.FunFrames base outer
 frf:∀b∈frs outer,H b=none
 hok:HOk P w H s.heap
 bare:AllBare s.gens
def CE(outer:List Env)(P:Program)(w:World)(H:Hp)(s:Shared)(Q:VK)(u:Value)(s':Shared):Prop :=
 ∃v H',s'.os=s.os/\AllBare s'.gens/\Un (frs outer) [] H H' s.heap s'.heap/\HOk P w H' s'.heap/\RelV v u/\Q v H'
def CR(CX:CXT)(outer:List Env)(P:Program)(w:World)(H:Hp)(s:Shared)(Q:VK)(E:XK)(r:Result)(s':Shared):Prop :=
 match r with
 |.ok (.ret u)=>CE outer P w H s Q u s'
 |.ok _=>False
 |.error e=>CX outer H s E e s'
structure FnOk(P:Program)(w:World)(K:PySem.W.Frag)(mg:Str->Option Value)(base:Heap)(CX:CXT)(k:Nat)(f:Addr)(fd:FuncData)(ps:List Str)(sp:Sp):Prop where
 len:∀vs H Q E,sp vs H Q E->vs.length=ps.length
 run:∀(A:Around) (outer:List Env) (s:Shared) (H:Hp) (args:Args) (us:List Value) (vs:List V) (Q:VK) (E:XK),Room k A->Env0 P w K mg base A outer s H->BindsTo s fd args (ps.zip us)->Vals vs us->sp vs H Q E ->
  codeAny (model P w) A (.call (.ref f) args) (CR CX outer P w H s Q E) s
theorem FnOk.imp{P:Program}{w:World}{K:PySem.W.Frag}{mg:Str->Option Value}{base:Heap}{CX:CXT}{k:Nat}{f:Addr}{fd:FuncData}{ps:List Str}{sp sp':Sp}(F:FnOk P w K mg base CX k f fd ps sp)
  (h:∀vs H Q E,sp' vs H Q E->sp vs H Q E):FnOk P w K mg base CX k f fd ps sp' :=
 ⟨λvs H Q E q=>F.len vs H Q E (h _ _ _ _ q),λA outer s H args us vs Q E hr he hb hv hs=>F.run A outer s H args us vs Q E hr he hb hv (h _ _ _ _ hs)⟩
theorem Env0.make{P:Program}{w:World}{K:PySem.W.Frag}{mg:Str->Option Value}{base:Heap}{A:Around}{outer:List Env}{s:Shared}{H:Hp}(e:Env0 P w K mg base A outer s H)(C:Addr)(us:List Value)(kw:List (Str×Value)):
  Env0 P w K mg base (A.under (.builtin "type.__call__" ⟨.ref C::us,kw⟩)) outer s H:=⟨by first|exact e.frames |(simpa[Around.under,Code.envs,Code.isFrame,pushEnvs]using e.frames),e.mod,e.bs,e.bsz,e.funs,e.frf,e.hok,e.bare⟩
theorem Env0.in1{P:Program}{w:World}{K:PySem.W.Frag}{mg:Str->Option Value}{base:Heap}{A:Around}{outer:List Env}{s:Shared}{H:Hp}(e:Env0 P w K mg base A outer s H):
  Env0 P w K mg base A.in1 outer s H:=⟨e.frames,e.mod,e.bs,e.bsz,e.funs,e.frf,e.hok,e.bare⟩
section
variable {X:Cx}{pins:List (Addr×Obj)}{σ:St}{H:Hp}{s s':Shared}
theorem Inv.env0(I:Inv X pins σ H s):Env0 X.prog X.w X.K X.mg X.base X.A X.stack s H :=
 ⟨I.ok.frames,I.ok.mod,I.bs,Nat.le_trans I.ok.bsz I.sz,I.stack,I.stkFree,I.hok,I.bare⟩
theorem Inv.after{Q:VK}{u:Value}(I:Inv X pins σ H s)(h:CE X.stack X.prog X.w H s Q u s'):EP X pins σ Q u s':=by
 obtain⟨v,H',os,bare,un,hok,r,q⟩:=h;obtain⟨hh,g,d,t,os'⟩:=s';obtain rfl:os'=s.os:=os;exact⟨v,H',I.call (h':=hh) (g':=g) (d':=d) (t':=t) (ch:=[]) un hok bare (λb z=>absurd z (by simp)),r,q⟩
end
def zjk(sp:Sp)(dvs:List V)(E:XK)(t:TA):TE:=λσ H Q=>t σ H λvs H1=>sp (vs++dvs) H1 Q E
def Binds(K:PySem.W.Frag)(fd:FuncData)(ps:List Str)(ds:List Value):Prop :=
 ∀(s:Shared) (us:List Value),K.In s.heap->(us++ds).length=ps.length->BindsTo s fd ⟨us,[]⟩ (ps.zip (us++ds))
theorem Binds.all{K:PySem.W.Frag}{fd:FuncData}{ps:List Str}(h:∀us:List Value,us.length=ps.length->bindArgs fd ⟨us,[]⟩=pure (ps.zip us)):Binds K fd ps []:=λs us _ hl=>by
 rw[List.append_nil]at hl ⊢;exact .of_eq (h us hl)
def zh1(CX:CXT)(X:Cx)(E:XK):Prop:=∀(pins:List (Addr×Obj)) (σ:St) (H:Hp) (s:Shared) (e:Value) (s':Shared),Inv X pins σ H s->CX X.stack H s E e s'->X.xe e s'
section
variable {X:Cx}{CX:CXT}{k:Nat}{f C:Addr}{fd:FuncData}{ps:List Str}{sp:Sp}{dvs:List V}{ds:List Value}{E:XK}{x m:Str}{p pos apos:Pos}{e o:Expr}{es:List Expr}{ta:TE}{t:TA}
theorem zmv{pins:List (Addr×Obj)}{σ:St}{H:Hp}{s:Shared}{Q:VK}{us:List Value}{vs:List V}(F:FnOk X.prog X.w X.K X.mg X.base CX k f fd ps sp)(hr:Room k X.A)(hb:Binds X.K fd ps ds)(hd:Vals dvs ds)(hx:zh1 CX X E)
  (I:Inv X pins σ H s) (r:Vals vs us) (h:sp (vs++dvs) H Q E):wpAny (model X.prog X.w) X.A (call (.ref f) us) (EP X pins σ Q) X.xe s:=by
 have r2:Vals (vs++dvs) (us++ds):=r.append hd;have hl:(us++ds).length=ps.length:=by rw[<-r2.length];exact F.len _ _ _ _ h
 refine wpAny_call (codeAny_mono (F.run X.A X.stack s H ⟨us,[]⟩ (us++ds) (vs++dvs) Q E hr I.env0 (hb s us I.kIn hl) r2 h) λr s' hq=>?_)
 cases r with
 |error e=>exact hx pins σ H s e s' I hq
 |ok fl=>
  cases fl with
  |ret u=>exact I.after hq
  |next=>exact False.elim hq
  |brk=>exact False.elim hq
  |cont=>exact False.elim hq
theorem zpm(F:FnOk X.prog X.w X.K X.mg X.base CX k f fd ps sp)(hr:Room k X.A)(hg:Gl X x)(hm:X.mg x=some (.ref f))(hk:PySem.W.keepIn X.K (.ref f)=true)(hb:Binds X.K fd ps ds)(hd:Vals dvs ds)(hx:zh1 CX X E)
  (ha:PA X (e::es) t) (hdb:(x ==("__debug__" : Str))=false:=by decide) (he:starEach (e::es) X.env=(false,eval e X.env)::starEach es X.env:=by rfl) (hpl:(backTo pos (starEach es X.env)).any (·.1)=false:=by rfl) :
  PE X (.Call (.Name x p) (e::es) [] pos) (zjk sp dvs E t):=by
 intro pins s σ H Q I h;refine wpAny_Call_Name_kw (kb I hg hm ?_ hdb);refine PySem.W.callWith_K (h₀:=X.base) I.ok.mod.kin hk (thn (ha pos pins s σ H _ I h) λus s1 ⟨vs,H1,I1,r,q⟩=>⟨I1.kIn,?_⟩) he hpl;exact zmv F hr hb hd hx I1 r q
end
structure yb(N P:List Str)(sc:Scope):Prop where
 kind:sc.kind=.function
 co:sc.isCoroutine=false
 gen:sc.isGenerator=false
 nd:N.Nodup
 pre:N.take P.length=P
 par:∀x∈P,sc.names.lookup x=some .local\/sc.names.lookup x=some .cell
 nofree:∀y∈sc.names,y.2 ≠ .free
theorem zd5{kindOf:Str->Option NameKind}{x:Str}:∀{binds:List (Str×Value)}{m:Str->Option Value},(∀v,(x,v)∉binds)->bindL kindOf binds m x=m x
 |[],_,_=>rfl
 |(n,v)::r,m,h=>by
  unfold bindL;rw[zd5 λw hw=>h w (List.mem_cons_of_mem _ hw)]
  split
  ·have:x≠n:=by rintro rfl;exact h v List.mem_cons_self
   simp[this]
  ·rfl
theorem zd6{kindOf:Str->Option NameKind}{x:Str}:∀{binds:List (Str×Value)}{m:Str->Option Value},(∀v,(x,v)∉binds)->bindC kindOf binds m x=m x
 |[],_,_=>rfl
 |(n,v)::r,m,h=>by
  unfold bindC;rw[zd6 λw hw=>h w (List.mem_cons_of_mem _ hw)]
  split
  ·rfl
  ·have:x≠n:=by rintro rfl;exact h v List.mem_cons_self
   simp[this]
theorem zd7{kindOf:Str->Option NameKind}{x:Str}{v:Value}:∀{P:List Str}{vs:List Value}{i:Nat}{m:Str->Option Value},P.Nodup->P[i]?=some x->vs[i]?=some v->kindOf x=some .local ->
  bindL kindOf (P.zip vs) m x=some v
 |[],_,_,_,_,h,_,_=>by simp at h
 |_::_,[],_,_,_,_,h,_=>by simp at h
 |p::P,w::vs,0,m,nd,h1,h2,hk=>by
  simp at h1 h2;subst h1;subst h2;show bindL kindOf ((p,w)::P.zip vs) m p=_;unfold bindL;rw[zd5 λv hv=>(List.nodup_cons.mp nd).1 (List.of_mem_zip hv).1,if_pos hk];simp
 |p::P,w::vs,i+1,m,nd,h1,h2,hk=>by
  show bindL kindOf ((p,w)::P.zip vs) m x=_;unfold bindL;exact zd7 (i:=i) (List.nodup_cons.mp nd).2 (by simpa using h1) (by simpa using h2) hk
theorem zd8{kindOf:Str->Option NameKind}{x:Str}{v:Value}:∀{P:List Str}{vs:List Value}{i:Nat}{m:Str->Option Value},P.Nodup->P[i]?=some x->vs[i]?=some v->kindOf x≠some .local ->
  bindC kindOf (P.zip vs) m x=some v
 |[],_,_,_,_,h,_,_=>by simp at h
 |_::_,[],_,_,_,_,h,_=>by simp at h
 |p::P,w::vs,0,m,nd,h1,h2,hk=>by
  simp at h1 h2;subst h1;subst h2;show bindC kindOf ((p,w)::P.zip vs) m p=_;unfold bindC;rw[zd6 λv hv=>(List.nodup_cons.mp nd).1 (List.of_mem_zip hv).1,if_neg hk];simp
 |p::P,w::vs,i+1,m,nd,h1,h2,hk=>by
  show bindC kindOf ((p,w)::P.zip vs) m x=_;unfold bindC;exact zd8 (i:=i) (List.nodup_cons.mp nd).2 (by simpa using h1) (by simpa using h2) hk
def qa(N:List Str)(vs:List V):St:=vs.map some++List.replicate (N.length-vs.length) none
def vj(CX:CXT)(P:Program)(w:World)(K:PySem.W.Frag)(mg:Str->Option Value)(base:Heap)(N:List Str)(qual:Str)(scope:Scope)(f:Addr)(cd:Value)(A:Around)(outer:List Env)(s:Shared)(H:Hp)(E:XK):Cx where
 prog:=P
 w:=w
 K:=K
 mg:=mg
 base:=base
 A:=A.deeper (envOfC qual scope s.heap.objs.size f cd)
 N:=N
 s₀:=s
 H₀:=H
 env:=envOfC qual scope s.heap.objs.size f cd
 outer:=outer
 stack:=envOfC qual scope s.heap.objs.size f cd::outer
 ex:=[]
 calm:=true
 fn:=λ_=>true
 pn:=[]
 xe:=λe s'=>wpAny (model P w) (A.deeper (envOfC qual scope s.heap.objs.size f cd)) (leaving (envOfC qual scope s.heap.objs.size f cd) e) (λ_ s''=>CX outer H s E e s'') (λe' s''=>CX outer H s E e' s'') s'
theorem zgb{sc:Scope}{n:Nat}{x:Str}(h:sc.names.lookup x=some .cell):∃c,(cellsFrom n sc.names []).lookup x=some c:=by
 have q:=PySem.W.cellsFrom_some sc.names n [] (.inl h);exact Option.isSome_iff_exists.mp q
theorem zbf{CX:CXT}{P:Program}{w:World}{K:PySem.W.Frag}{mg:Str->Option Value}{base:Heap}{N ps:List Str}{qual:Str}{scope:Scope}{f:Addr}{cd:Value}{A:Around}{outer:List Env}{s s1:Shared}{H:Hp}{E:XK}{us:List Value}{vs:List V}
  (S:yb N ps scope) (hd:A.handled=none) (e0:Env0 P w K mg base A outer s H) (hl:vs.length=ps.length) (r:Vals vs us)
  (x:InCallC s s.heap.objs.size (bindL (envOfC qual scope s.heap.objs.size f cd).kindOf (ps.zip us) λ_=>none) (cellsFrom (s.heap.objs.size+1) scope.names []) (bindC (envOfC qual scope s.heap.objs.size f cd).kindOf (ps.zip us) λ_=>none) s1) :
  Inv (vj CX P w K mg base N qual scope f cd A outer s H E) [] (qa N vs) H s1:=by
 have hpl:ps.length<=N.length:=by have:=congrArg List.length S.pre;rw[List.length_take]at this;omega
 obtain⟨h1,tk,rfl,hk⟩:=x.done;have noA:∀b:Addr,b∉(vj CX P w K mg base N qual scope f cd A outer s H E).ex:=λb z=>absurd (show b∈([]:List Addr) from z) (by simp);refine⟨⟨e0.mod,S.kind,rfl,rfl,Nat.le_refl _,λy z c h1 h2=>?_,λy hy=>?_,λy c _ h=>?_,λ_=>hd,Around.frames_deeper e0.frames,.inr ⟨rfl,rfl⟩,λb z=>absurd z (noA b),e0.bs,e0.bsz,λb _ _=>noA b,λb z=>absurd z (noA b),e0.funs,e0.frf⟩,
  rfl,e0.bare,Un.kept hk,⟨_,x.toInCall.ns,λi y v h1 h2 h3=>?_⟩,λy c h=>⟨_,x.cell y c h⟩,e0.hok.fresh (Nat.le_refl _),λy c h=>?_,λp hp=>absurd (show p∈([]:List (Addr×Obj)) from hp) (by simp),e0.hok.kept hk,?_⟩
 ·exact name_of_addr x.apart (PySem.mem_of_lookup h1) (PySem.mem_of_lookup h2)
 ·have hy:scope.names.lookup y=some .cell\/scope.names.lookup y=some .free:=hy;rcases hy with hy|hy
  ·exact zgb hy
  ·exact absurd rfl (S.nofree _ (PySem.mem_of_lookup hy))
 ·exact Nat.le_of_lt (x.above y c (PySem.mem_of_lookup h))
 ·have hi:i<vs.length:=by
   unfold qa at h2
   by_cases hi:i<vs.length
   ·exact hi
   ·rw[List.getElem?_append_right (by simpa using hi)]at h2;rw[List.getElem?_replicate]at h2
    split at h2 <;> cases h2
  have ha:vs[i]?=some v:=by
   unfold qa at h2;rw[List.getElem?_append_left (by simpa using hi),List.getElem?_map]at h2
   cases e:vs[i]? with
   |none=>rw[e]at h2;cases h2
   |some a=>rw[e]at h2;cases h2;rfl
  obtain⟨u,hu,rv⟩:=r.get ha;have hp:ps[i]?=some y:=by
   rw[<-S.pre,List.getElem?_take_of_lt (by omega)];exact h1
  have ndP:ps.Nodup:=by rw[<-S.pre];exact S.nd.sublist (List.take_sublist _ _)
  refine⟨u,rv,?_⟩;rcases S.par y (List.mem_of_getElem? hp) with k|k
  ·exact .inl ⟨k,zd7 ndP hp hu k⟩
  ·obtain⟨c,e⟩:=zgb (n:=s.heap.objs.size+1) k;refine .inr ⟨.inl k,c,e,?_⟩;have q:=x.cell y c e;rw[zd8 ndP hp hu (by show scope.names.lookup y≠_;rw[k];decide)]at q;exact q
 ·exact e0.hok.fresh (Nat.le_of_lt (x.above y c (PySem.mem_of_lookup h)))
 ·unfold qa;show _=N.length;rw[List.length_append,List.length_map,List.length_replicate];omega
theorem zmw{CX:CXT}{P:Program}{w:World}{K:PySem.W.Frag}{mg:Str->Option Value}{base:Heap}{k:Nat}{f:Addr}{name qual:Str}{params:Arguments}{body:List Stmt}{scope:Scope}{dV kV doc pm cdv ct oc:Value}{an od:Option Addr}
  {osl:Array (Option Value)}{N ps:List Str}{sp:Sp} (lk:K.lookup f=some ⟨oc,od,.func (PySem.W.fnOf name qual params body scope dV kV doc pm an cdv ct),osl⟩) (hcd:PySem.W.codeIn K cdv qual=true) (S:yb N ps scope)
  (len:∀vs H Q E,sp vs H Q E->vs.length=ps.length)
  (hbody:∀(A:Around) (outer:List Env) (s:Shared) (H:Hp) (vs:List V) (Q:VK) (E:XK),Room k (A.deeper (envOfC qual scope s.heap.objs.size f cdv))->sp vs H Q E ->
   ∃t,PSs (vj CX P w K mg base N qual scope f cdv A outer s H E) body t/\t { nx:=λ_ H'=>Q .non H',rt:=Q } (qa N vs) H) :
  FnOk P w K mg base CX (k+1) f (PySem.W.fnOf name qual params body scope dV kV doc pm an cdv ct) ps sp:=by
 refine⟨len,λA outer s H args us vs Q E hr e0 hb r hsp=>?_⟩;have hl:=len _ _ _ _ hsp;have KX:K.In s.heap:=e0.mod.kin.keeps λb o e=>(e0.bs b o e).1;have lim:s.heap.NoLimit:=e0.mod.nolimit.keeps λb o e=>(e0.bs b o e).1;have hkind:∀y∈ps.zip us,scope.names.lookup y.1=some .local\/(scope.names.lookup y.1=some .cell/\((cellsFrom (s.heap.objs.size+1) scope.names []).lookup y.1).isSome=true):=λ⟨n,v⟩ hy=>by
  rcases S.par n (List.of_mem_zip hy).1 with q|q
  ·exact .inl q
  ·exact .inr ⟨q,PySem.W.cellsFrom_some _ _ _ (.inl q)⟩
 refine codeAny_call_function hr.depth (KX _ _ lk) rfl S.co S.gen rfl (PySem.W.codeRec_of KX hcd) (hb _ _ _ _ ?_);refine wpAny_newFunctionEnv_cells S.kind hkind λenv he s1 x=>?_;subst he;refine⟨lim.keeps x.toInCall.keep,codeAny_func ?_⟩;obtain⟨t,ht,hq⟩:=hbody A outer s H vs Q E (hr.deeper _) hsp;have I:Inv (vj CX P w K mg base N qual scope f cdv A outer s H E) [] (qa N vs) H s1:=zbf S hr.hd e0 hl r x;refine wpAny_mono (ht [] s1 (qa N vs) H _ I hq) (λfl s' hs=>?_) λe s' hs=>hs;have fin:∀{σ':St}{H':Hp}{v:V}{u:Value},Inv (vj CX P w K mg base N qual scope f cdv A outer s H E) [] σ' H' s'->RelV v u->Q v H'->CE outer P w H s Q u s' :=
  λ{σ' H' v u} J rv q=>⟨v,H',J.os,J.bare,J.base,J.hok,rv,q⟩
 cases fl with
 |ret u=>
  obtain⟨v,σ',H',J,rv,q⟩:=hs;exact fin J rv q
 |next=>
  obtain⟨σ',H',J,q⟩:=hs;exact fin (v:=V.non) (u:=Value.none) J rfl q
 |brk=>
  obtain⟨_,_,_,q⟩:=hs;exact False.elim q
 |cont=>
  obtain⟨_,_,_,q⟩:=hs;exact False.elim q
section
variable {X:Cx}{x:Str}{p pos:Pos}{e:Expr}{es:List Expr}{t:TA}{id T:String}{r:List V->Hp->VK->Prop}
def tCB(r:List V->Hp->VK->Prop)(t:TA):TE:=λσ H Q=>t σ H λvs H1=>r vs H1 Q
theorem qe(hc:w6 X (.builtin id) r)(hg:Gl X x)(hm:X.mg x=none)(hv:bootBuiltins x=some (.builtin id))(ha:PA X (e::es) t)(hn:x ≠ "__name__" := by decide)(hdb:(x ==("__debug__" : Str))=false:=by decide)
  (he:starEach (e::es) X.env=(false,eval e X.env)::starEach es X.env:=by rfl) (hpl:(backTo pos (starEach es X.env)).any (·.1)=false:=by rfl):PE X (.Call (.Name x p) (e::es) [] pos) (tCB r t):=by
 intro pins s σ H Q I h;refine wpAny_Call_Name_kw (kc I hg hm hv ?_ hn hdb);exact PyProof.Rows.callWith_builtin1 (thn (ha pos pins s σ H _ I h) λus s1 ⟨vs,H1,I1,r1,q1⟩=>hc pins s1 σ H1 vs us Q I1 r1 q1) he hpl
theorem zd9(hc:w6 X (.type T) r)(hg:Gl X x)(hm:X.mg x=none)(hv:bootBuiltins x=some (.type T))(ha:PA X (e::es) t)(hn:x ≠ "__name__" := by decide)(hdb:(x ==("__debug__" : Str))=false:=by decide)
  (he:starEach (e::es) X.env=(false,eval e X.env)::starEach es X.env:=by rfl) (hpl:(backTo pos (starEach es X.env)).any (·.1)=false:=by rfl):PE X (.Call (.Name x p) (e::es) [] pos) (tCB r t):=by
 intro pins s σ H Q I h;refine wpAny_Call_Name_kw (kc I hg hm hv ?_ hn hdb);exact PyProof.Rows.callWith_type1 (thn (ha pos pins s σ H _ I h) λus s1 ⟨vs,H1,I1,r1,q1⟩=>hc pins s1 σ H1 vs us Q I1 r1 q1) he hpl
end
end L2
namespace HT
open PySem PyProof.Rows
def lexLt:List Int->List Int->Bool
 |[],[]=>false
 |[],_::_=>true
 |_::_,[]=>false
 |x::xs,y::ys=>if x=y then lexLt xs ys else decide (x<y)
theorem lexLt_cons(x y:Int)(xs ys:List Int):lexLt (x::xs) (y::ys)=if x=y then lexLt xs ys else decide (x<y):=rfl
theorem zdi:lexLt [] []=false:=rfl
theorem zcg(y:Int)(ys:List Int):lexLt [] (y::ys)=true:=rfl
theorem zch(x:Int)(xs:List Int):lexLt (x::xs) []=false:=rfl
theorem eqAt_int(A:Around)(s:Shared)(a:Int)(t:Tok)(c:Int)(u:Tok):∃e,SeqAt.EqAt A s (.int a t) (.int c u) e/\(e=true↔a=c) :=
 ⟨(a == c),SeqAt.EqAt.int_int a t c u,by simp⟩
theorem rcLt_int(A:Around)(s:Shared)(a:Int)(t:Tok)(c:Int)(u:Tok)(prog:Program)(w:World)(E:Value->Shared->Prop)(Q:Value->Shared->Prop)(h:Q (.bool (decide (a<c))) s):
  wpAny (model prog w) A (richCompare .Lt (.int a t) (.int c u)) Q E s :=
 (PyProof.Rows.lt_int h:wpAny (model prog w) A (compareOp .Lt (.int a t) (.int c u)) Q E s)
section
open PySem.SeqAt
open PySem.AutoSeq1 (wpAny_loadPart')
open PySem.MeetsSeq PySem.MeetsSeq2 PySem.MeetsSeq3
theorem zdj(l b:Addr)(items items2:Array Value)(n n2:Nat)(dd dd2:Option Addr)(sl sl2:Array (Option Value))(ns ms:List Int)(hi:IntsAre items.toList ns)(hj:IntsAre items2.toList ms):
  Meets (Builtin.«tuple.__lt__» ⟨[.ref l,.ref b],[]⟩)
   (λ_ R s=>s.heap.get? l=some { cls:=.type "tuple",dict:=dd,data:=.seq items n,slots:=sl }/\s.heap.get? b=some { cls:=.type "tuple",dict:=dd2,data:=.seq items2 n2,slots:=sl2 } /\
    R (.ok (.ret (.bool (lexLt ns ms)))) s) :=
 .of_wp λprog w A R s h=>by
  obtain⟨hp,g,d,tk,os⟩:=s;obtain⟨hl,hb,h⟩:=h;have f2:=AutoSeq1.sub_tuple_tuple;have z1:items.size=ns.length:=by rw[<-hi.length];simp
  have z2:items2.size=ms.length:=by rw[<-hj.length];simp
  wp_walk using wpAny_loadPart' hl,wpAny_loadPart' hb,wpAny_forIn_list _ (λrest b s'=>b.1=none/\s'=⟨hp,g,d,tk,os⟩/\∃(vs ws:List Value) (ns' ms':List Int),rest=vs.zip ws /\
   IntsAre vs ns'/\IntsAre ws ms'/\ns'.length+items2.size=ms'.length+items.size/\R (.ok (.ret (.bool (lexLt ns' ms')))) ⟨hp,g,d,tk,os⟩) _
  case turn=>
   rintro ⟨y,x⟩ rest b s' ⟨hb',rfl,vs,ws,ns',ms',hz,hvi,hwi,hlen,hR⟩
   cases hvi with
   |nil=>rw[List.zip_nil_left]at hz;cases hz
   |cons a t hvi'=>
    cases hwi with
    |nil=>rw[List.zip_nil_right]at hz;cases hz
    |cons c u hwi'=>
     rw[List.zip_cons_cons]at hz;injection hz with hyx hrest
     injection hyx with hy hx
     subst hy hx;rw[lexLt_cons]at hR;simp only[List.length_cons]at hlen;obtain⟨e,he,hiff⟩:=eqAt_int A.in1 ⟨hp,g,d,tk,os⟩ a t c u;refine wpAny_bind (he prog w _ _ ?_)
     cases e with
     |true=>
      rw[if_pos (hiff.mp rfl)]at hR
      wp_walk
      exact⟨rfl,rfl,_,_,_,_,hrest,hvi',hwi',by omega,hR⟩
     |false=>
      rw[if_neg (λq=>absurd (hiff.mpr q) Bool.false_ne_true)]at hR;have hri:=rcLt_int A.in1 ⟨hp,g,d,tk,os⟩ a t c u prog w
      wp_walk using hri
      exact⟨_,rfl,by simpa using hR⟩
  case fin=>
   rintro ⟨b1,b2⟩ s' ⟨hb',rfl,vs,ws,ns',ms',hz,hvi,hwi,hlen,hR⟩;simp only at hb';subst hb';have hv:lexLt ns' ms'=decide (items.size<items2.size):=by
    cases hvi with
    |nil=>
     cases hwi with
     |nil=>
      simp only[List.length_nil]at hlen;rw[zdi];exact(decide_eq_false (by omega)).symm
     |cons c u hw=>
      simp only[List.length_nil,List.length_cons]at hlen;rw[zcg];exact(decide_eq_true (by omega)).symm
    |cons a t hv=>
     cases hwi with
     |nil=>
      simp only[List.length_nil,List.length_cons]at hlen;rw[zch];exact(decide_eq_false (by omega)).symm
     |cons c u hw=>
      rw[List.zip_cons_cons]at hz
      cases hz
   rw[hv]at hR
   wp_walk
   exact⟨_,rfl,by simpa[Builtin.Tuple.tupleCompareSizes]using hR⟩
  case h=>
   exact⟨rfl,rfl,items.toList,items2.toList,ns,ms,rfl,hi,hj,by omega,h⟩
end
section
variable {prog:Program}{w:World}{A:Around}{E:Value->Shared->Prop}{s:Shared}
theorem lt_tupInts{l b:Addr}{items items2:Array Value}{ns ms:List Int}{Q:Value->Shared->Prop}(hl:IsTup s.heap l items)(hb:IsTup s.heap b items2)(hi:IntsAre items.toList ns)(hj:IntsAre items2.toList ms)
  (hu:A.units<cLine) (h:Q (.bool (lexLt ns ms)) s):wpAny (model prog w) A (compareOp .Lt (.ref l) (.ref b)) Q E s:=by
 obtain⟨⟨cls,dd,data,sl⟩,ho,hc,n,hd⟩:=id hl;obtain⟨⟨cls2,dd2,data2,sl2⟩,ho2,hc2,n2,hd2⟩:=id hb;simp only at hc hd hc2 hd2;subst hc hd hc2 hd2;exact richCompare_meets_room (op:=.Lt) ⟨_,ho,rfl⟩ ⟨_,ho2,rfl⟩ PySem.F.slot_tuple_lt PySem.F.entry_tuple_lt (PySem.F.args_tuple_lt_2 _ _) (zdj l b items items2 n n2 dd dd2 sl sl2 ns ms hi hj)
  ⟨ho,ho2,show Value.bool (lexLt ns ms)≠Value.notImplemented/\Q (.bool (lexLt ns ms)) s from⟨(λx=>nomatch x),h⟩⟩ hu
theorem cat_tup{t b:Addr}{vs ws:List Value}{Q:Value->Shared->Prop}(ht:IsTup s.heap t vs.toArray)(hb:IsTup s.heap b ws.toArray)(hv:vs ≠ [])
  (h1:ws = []->Q (.ref t) s) (h2:ws ≠ []->Q (.ref s.heap.objs.size) { s with heap:=s.heap.push { cls:=.type "tuple",data:=.seq (vs++ws).toArray } })
  (hsz:vs.length+ws.length<=sizeLine):wpAny (model prog w) A (binaryOp .Add (.ref t) (.ref b)) Q E s:=by
 obtain⟨⟨cls,dd,data,sl⟩,ho,hc,n,hd⟩:=id ht;obtain⟨⟨cls2,dd2,data2,sl2⟩,ho2,hc2,n2,hd2⟩:=id hb;simp only at hc hd hc2 hd2;subst hc hd hc2 hd2;have e:vs.toArray++ws.toArray=(vs++ws).toArray:=by simp
 by_cases hw:ws = []
 ·exact concat_meets ⟨_,ho,rfl⟩ ⟨_,ho2,rfl⟩ noFill_tuple_add seq_tuple_add PySem.F.slot_tuple_add PySem.F.entry_tuple_add (PySem.F.args_tuple_add_2 _ _)
   (tuple_addW1 t b vs.toArray ws.toArray n n2 dd dd2 sl sl2 (by simpa using hv) (by simp[hw])) ⟨ho,ho2,h1 hw⟩
 ·refine concat_meets ⟨_,ho,rfl⟩ ⟨_,ho2,rfl⟩ noFill_tuple_add seq_tuple_add PySem.F.slot_tuple_add PySem.F.entry_tuple_add (PySem.F.args_tuple_add_2 _ _)
   (tuple_addW2 t b vs.toArray ws.toArray n n2 dd dd2 sl sl2 (by simpa using hv) (by simpa using hw) (by rw[List.size_toArray,List.size_toArray];exact hsz)) ⟨ho,ho2,?_⟩
  rw[e];exact h2 hw
def sIx(n d:Nat):Option Int->Nat
 |none=>d
 |some v=>if v<0 then (v+(n:Int)).toNat else min v.toNat n
theorem sIx_none(n d:Nat):sIx n d none=d:=rfl
theorem sIx_nat(n d k:Nat):sIx n d (some (k:Int))=min k n:=by
 show(if (k:Int)<0 then ((k:Int)+(n:Int)).toNat else min (k:Int).toNat n)=min k n;rw[if_neg (by omega),Int.toNat_natCast]
theorem zst(n d:Nat)(hd:d<=n)(o:Option Int):sIx n d o<=n:=by
 cases o with
 |none=>exact hd
 |some v=>
  show(if v<0 then (v+(n:Int)).toNat else min v.toNat n)<=n
  by_cases hv:v<0
  ·rw[if_pos hv];omega
  ·rw[if_neg hv];exact Nat.min_le_right _ _
theorem zjl(v:Int)(n d:Nat):(if v<0 then max (v+(n:Int)) 0 else min v (n:Int))=((sIx n d (some v):Nat):Int):=by
 show(if v<0 then max (v+(n:Int)) 0 else min v (n:Int))=(((if v<0 then (v+(n:Int)).toNat else min v.toNat n):Nat):Int)
 by_cases hv:v<0
 ·simp only[if_pos hv];omega
 ·simp only[if_neg hv];omega
theorem zh2(lo hi:Option Int)(n:Nat):Builtin.Slice.sliceAdjust lo hi 1 (n:Int)=(((sIx n 0 lo:Nat):Int),((sIx n n hi:Nat):Int)):=by
 have h1:¬ ((1:Int)<0):=by omega
 unfold Builtin.Slice.sliceAdjust;simp only[h1,if_false];refine Prod.ext ?_ ?_
 ·cases lo with
  |none=>rfl
  |some v=>exact zjl v n 0
 ·cases hi with
  |none=>rfl
  |some v=>exact zjl v n n
theorem zh3(i j:Nat):Builtin.Slice.slicePlaces (i:Int) (j:Int) 1=j-i:=by
 unfold Builtin.Slice.slicePlaces;have h1:(1:Int) > 0:=by omega
 simp only[h1,if_true,Int.ediv_one]
 split <;> omega
theorem zci{v:Value}{o:Option Int}{Q:Option Int->Shared->Prop}(p:IsPart v o)(h:Q o s):wpAny (model prog w) A (Builtin.Slice.slicePartIndex v) Q E s:=by
 cases p with
 |none=>exact slicePart_none h
 |int i t=>exact slicePart_int h
theorem sliceApplied_gen{sl:Addr}{vl vu:Value}{lo hi:Option Int}{n:Nat}{Q:Int×Int×Nat->Shared->Prop}(hs:s.heap.IsSliceOf sl vl vu .none)(pl:IsPart vl lo)(pu:IsPart vu hi)
  (h:Q (((sIx n 0 lo:Nat):Int),1,sIx n n hi-sIx n 0 lo) s):wpAny (model prog w) A (Builtin.Slice.sliceApplied (.ref sl) (pure (n:Int))) Q E s:=by
 obtain⟨os,hos,hcs,hds⟩:=id hs;unfold Builtin.Slice.sliceApplied Builtin.Slice.sliceFields;refine wpAny_bind (wpAny_bind (wpAny_field hos hds (x:=vl) rfl (wpAny_bind (wpAny_field hos hds (x:=vu) rfl (wpAny_bind (wpAny_field hos hds (x:=.none) rfl (wpAny_pure ?_)))))));refine wpAny_bind (slicePart_none ?_);show wpAny _ _ (if ((1:Int) == 0)=true then _ else _) _ _ s;rw[if_neg (by decide)];refine wpAny_bind (zci pl (wpAny_bind (zci pu (wpAny_bind (wpAny_pure ?_)))));show wpAny _ _ (match Builtin.Slice.sliceAdjust lo hi 1 (n:Int) with |(lo,hi)=>pure (lo,(1:Int),Builtin.Slice.slicePlaces lo hi 1)) _ _ s;rw[zh2 lo hi n];show wpAny _ _ (pure (((sIx n 0 lo:Nat):Int),(1:Int),Builtin.Slice.slicePlaces ((sIx n 0 lo:Nat):Int) ((sIx n n hi:Nat):Int) 1)) _ _ s;rw[zh3];exact wpAny_pure h
theorem zmx(xs:Array Value)(i k:Nat):((List.range k).filterMap λ(m:Nat)=>xs[((i:Int)+(m:Int) * 1).toNat]?).toArray=((xs.toList.drop i).take k).toArray:=by
 have e:(λ(m:Nat)=>xs[((i:Int)+(m:Int) * 1).toNat]?)=λm=>xs[i+m]?:=by
  funext m
  have:((i:Int)+(m:Int) * 1).toNat=i+m:=by omega
  rw[this]
 rw[e];have:=pick_run xs i k;rw[List.filterMap_map]at this;have e2:((λx=>xs[x]?) ∘ λx=>i+x)=λm=>xs[i+m]?:=rfl;rw[e2]at this;rw[this]
theorem getItem_tuple_cut{t sl:Addr}{items:Array Value}{vl vu:Value}{lo hi:Option Int}{Q:Value->Shared->Prop}(ht:IsTup s.heap t items)(hs:s.heap.IsSliceOf sl vl vu .none)(pl:IsPart vl lo)(pu:IsPart vu hi)
  (hw:¬ (sIx items.size 0 lo=0/\sIx items.size items.size hi=items.size))
  (h:Q (.ref s.heap.objs.size) { s with heap:=s.heap.push { cls:=.type "tuple",data:=.seq ((items.toList.drop (sIx items.size 0 lo)).take (sIx items.size items.size hi-sIx items.size 0 lo)).toArray } })
  (hsz:items.size<=sizeLine):wpAny (model prog w) A (getItem (.ref t) (.ref sl)) Q E s:=by
 have htake:sizeOk (.seq ((items.toList.drop (sIx items.size 0 lo)).take (sIx items.size items.size hi-sIx items.size 0 lo)).toArray):=by
  show((items.toList.drop (sIx items.size 0 lo)).take (sIx items.size items.size hi-sIx items.size 0 lo)).toArray.size<=sizeLine;rw[List.size_toArray,List.length_take,List.length_drop,Array.length_toList];omega
 have hj:sIx items.size items.size hi<=items.size:=zst _ _ (Nat.le_refl _) hi;obtain⟨os,hos,hcs,hds⟩:=id hs;have hTs:s.TypeIs (.ref sl) "slice" :=⟨os,hos,hcs⟩
 unfold getItem
 try with_reducible refine wpAny_holding ?_
 first|refine wpAny_bind (wpAny_pure ?_)|skip
 refine wpAny_bind (wpAny_sequenceKey ht.typeIs (by decide) ?_);refine wpAny_bind (wpAny_callSpecial?_slot (name:=Str.ofString "__getitem__") ht.typeIs PyProof.Rows.slot_tuple_getitem
  (wpAny_call_entry PyProof.Rows.slot_tuple_getitem ht.typeIs entry_tuple_getitem ?_ (args_tuple_getitem _ _)))
 show wpAny _ _ (Builtin.Tuple.tupleItemsOf (.ref t) >>= _) _ _ s;refine wpAny_bind (tupleItemsOf_ ht ?_);refine wpAny_bind (wpAny_typeOf hTs ?_);rw[if_pos (by decide)];refine wpAny_bind (sliceApplied_gen hs pl pu ?_);have hno:¬ ((((sIx items.size 0 lo:Nat):Int) == 0 && (1:Int) == 1 && (sIx items.size items.size hi-sIx items.size 0 lo) == items.size)=true):=by
  intro q;rw[Bool.and_eq_true,Bool.and_eq_true]at q;have q1:((sIx items.size 0 lo:Nat):Int)=0:=eq_of_beq q.1.1;have q2:sIx items.size items.size hi-sIx items.size 0 lo=items.size:=eq_of_beq q.2;exact hw ⟨by omega,by omega⟩
 show wpAny _ _ (if (((sIx items.size 0 lo:Nat):Int) == 0 && (1:Int) == 1 && (sIx items.size items.size hi-sIx items.size 0 lo) == items.size)=true then _ else _) _ _ s;rw[if_neg hno,zmx]
 first
  |exact wpAny_bind (m:=Builtin.Tuple.tupleExact _) (wpAny_newObj_type (wpAny_pure ⟨_,rfl,wpAny_pure h⟩) htake)
  |exact wpAny_bind (m:=Builtin.Tuple.tupleExact _) (wpAny_newObj_type (wpAny_bind (wpAny_pure (wpAny_pure ⟨_,rfl,wpAny_pure h⟩))) htake)
  |exact wpAny_bind (wpAny_bind (m:=Builtin.Tuple.tupleExact _) (wpAny_newObj_type (wpAny_pure (wpAny_pure ⟨_,rfl,wpAny_pure h⟩)) htake))
  |exact wpAny_bind (wpAny_bind (m:=Builtin.Tuple.tupleExact _) (wpAny_newObj_type (wpAny_pure ⟨_,rfl,wpAny_pure h⟩) htake))
end
end HT
namespace L2
open PySem PySem.Spec PyProof.Rows
abbrev TO:=St->Hp->(Option Int->Hp->Prop)->Prop
def PO(X:Cx)(e:Option Expr)(t:TO):Prop :=
 ∀(pins:List (Addr×Obj)) (s:Shared) (σ:St) (H:Hp) (Q:Option Int->Hp->Prop),Inv X pins σ H s->t σ H Q ->
  wpAny (model X.prog X.w) X.A (evalPart e X.env) (λu s'=>∃o H',Inv X pins σ H' s'/\IsPart u o/\Q o H') X.xe s
def zpn:TO:=λ_ H Q=>Q none H
def zux(t:TE):TO:=λσ H Q=>t σ H λx H1=>∃i,x=.int i/\Q (some i) H1
theorem vq{ns:List Int}:∀{us:List Value},Vals (ns.map V.int) us->IntsAre us ns:=by
 induction ns with
 |nil=>intro us r;rw[List.map_nil]at r;cases r;exact .nil
 |cons n ns ih=>
  intro us r;rw[List.map_cons]at r
  cases r with
  |cons r1 r2=>
   obtain⟨t,e⟩:=r1;subst e;exact .cons n t (ih r2)
section
variable {X:Cx}{e:Expr}{te:TE}{lo hi:Option Expr}{tl th:TO}{pos p2:Pos}
theorem zpo:PO X none zpn:=by
 intro pins s σ H Q I h;rw[evalPart_none];exact wpAny_pure ⟨none,H,I,.none,h⟩
theorem zpp(h:PE X e te):PO X (some e) (zux te):=by
 intro pins s σ H Q I hw;rw[evalPart_some];refine thn (h pins s σ H _ I hw) λu s1 ⟨x,H1,I1,r1,q1⟩=>?_;obtain⟨i,rfl,q⟩:=q1;obtain⟨t,rfl⟩:=r1;exact⟨some i,H1,I1,.int i t,q⟩
def SlR(X:Cx)(r:V->Option Int->Option Int->Hp->VK->Prop):Prop :=
 ∀(pins:List (Addr×Obj)) (s:Shared) (σ:St) (H:Hp) (x:V) (v vl vu:Value) (lo hi:Option Int) (sl:Addr) (Q:VK),Inv X pins σ H s->RelV x v->s.heap.IsSliceOf sl vl vu .none->IsPart vl lo->IsPart vu hi->r x lo hi H Q ->
  ∃T id,typeLookup (.type T) "__getitem__" = pure (some (.builtin id))/\s.TypeIs v T/\wpAny (model X.prog X.w) X.A (getItem v (.ref sl)) (EP X pins σ Q) X.xe s
theorem SlR.or{r r':V->Option Int->Option Int->Hp->VK->Prop}(h:SlR X r)(h':SlR X r'):SlR X (λx lo hi H Q=>r x lo hi H Q\/r' x lo hi H Q):=by
 intro pins s σ H x v vl vu lo hi sl Q I rx hs pl pu q;rcases q with q|q
 ·exact h pins s σ H x v vl vu lo hi sl Q I rx hs pl pu q
 ·exact h' pins s σ H x v vl vu lo hi sl Q I rx hs pl pu q
def tSl(r:V->Option Int->Option Int->Hp->VK->Prop)(te:TE)(tl th:TO):TE:=λσ H Q=>te σ H λx H1=>tl σ H1 λl H2=>th σ H2 λu H3=>r x l u H3 Q
theorem zgc{r:V->Option Int->Option Int->Hp->VK->Prop}(hr:SlR X r)(he:PE X e te)(hl:PO X lo tl)(hu:PO X hi th):PE X (.Subscript e (.Slice lo hi none p2) pos) (tSl r te tl th):=by
 intro pins s σ H Q I h;refine Subscript_ (thn (he pins s σ H _ I h) λv s1 ⟨x,H1,I1,r1,q1⟩=>?_);refine wpAny_Slice (thn (hl pins s1 σ H1 _ I1 q1) λvl s2 ⟨l,H2,I2,pl,q2⟩=>thn (hu pins s2 σ H2 _ I2 q2) λvu s3 ⟨u,H3,I3,pu,q3⟩=>?_);rw[evalPart_none];refine wpAny_pure ?_;have I4:Inv X pins σ H3 { s3 with heap:=s3.heap.push { cls:=.type "slice",data:=.fields #[vl,vu,.none] } }:=I3.kept (t':=s3.toks) λb ob q=>Heap.get?_push_of_some _ q;obtain⟨T,id,hT,ht,hg⟩:=hr pins { s3 with heap:=s3.heap.push { cls:=.type "slice",data:=.fields #[vl,vu,.none] } } σ H3 x v vl vu l u s3.heap.objs.size Q I4 r1 (Heap.IsSliceOf.new ..) pl pu q3;show wpAny (model X.prog X.w) X.A (subscriptTail e (.Slice lo hi none p2) v (.ref s3.heap.objs.size)) (EP X pins σ Q) X.xe { s3 with heap:=s3.heap.push { cls:=.type "slice",data:=.fields #[vl,vu,.none] } };exact tail_any (ops:=[.ref s3.heap.objs.size,v]) ht hT hg (by with_unfolding_all rfl)
def zdk(xs:List V)(lo hi:Option Int):List V:=(xs.drop (HT.sIx xs.length 0 lo)).take (HT.sIx xs.length xs.length hi-HT.sIx xs.length 0 lo)
theorem zbu(xs:List V)(lo hi:Option Int):(zdk xs lo hi).length<=xs.length:=by
 unfold zdk;rw[List.length_take,List.length_drop];omega
def zwc(K:PySem.W.Frag):V->Option Int->Option Int->Hp->VK->Prop:=λx lo hi H Q=>∃a xs,x=.ref a/\SqT K H a xs /\
 ¬ (HT.sIx xs.length 0 lo=0/\HT.sIx xs.length xs.length hi=xs.length)/\∀p,H p=none->Q (.ref p) (upd H p (.tup (zdk xs lo hi)))
theorem zsu:SlR X (zwc X.K):=by
 intro pins s σ H x v vl vu lo hi sl Q I rx hs pl pu h;obtain⟨a,xs,rfl,hx,hw,q⟩:=h
 cases rx;obtain⟨its,r,ht,hz⟩:=I.tuple hx;have hlen:its.toArray.size=xs.length:=by rw[List.size_toArray];exact r.length.symm
 refine⟨"tuple",_,PyProof.Rows.slot_tuple_getitem.lookup,ht.typeIs,?_⟩;refine HT.getItem_tuple_cut ht hs pl pu (by rw[hlen];exact hw) ?_ (by rw[hlen];exact hz);rw[hlen];refine⟨.ref s.heap.objs.size,_,I.laid (t':=s.toks) (o:=.tup (zdk xs lo hi)) (λb ob q=>Heap.get?_push_of_some _ q) (Nat.le_refl _) ?_,rfl,q _ (I.hok.fresh (Nat.le_refl _))⟩;exact⟨Nat.le_trans (zbu xs lo hi) hz,_,(r.drop (HT.sIx xs.length 0 lo)).take (HT.sIx xs.length xs.length hi-HT.sIx xs.length 0 lo),TupD.new _ _⟩
theorem Vals.nil_iff{xs:List V}{us:List Value}(r:Vals xs us):us = []↔xs = []:=by
 cases r with
 |nil=>simp
 |cons _ _=>simp
end
def ixN(n:Nat)(i:Int):Option Nat:=if 0<=i then (if i<n then some i.toNat else none) else if -(n:Int)<=i then some (i+n).toNat else none
def atI{α:Type}(xs:List α)(i:Int):Option α:=(ixN xs.length i).bind λj=>xs[j]?
theorem zjm{n:Nat}{i:Int}{j:Nat}(h:ixN n i=some j):seqIndex? i n=some j/\j<n/\-(n:Int)<=i/\i<n:=by
 unfold ixN at h
 by_cases h0:0<=i
 ·rw[if_pos h0]at h
  by_cases h1:i<n
  ·rw[if_pos h1]at h;have e:i.toNat=j:=Option.some.inj h;exact⟨by rw[seqIndex_of h0 h1,e],by omega,by omega,h1⟩
  ·rw[if_neg h1]at h;cases h
 ·rw[if_neg h0]at h
  by_cases h1 : -(n:Int)<=i
  ·rw[if_pos h1]at h;have e:(i+n).toNat=j:=Option.some.inj h;exact⟨by rw[seqIndex_neg (by omega) h1,e],by omega,h1,by omega⟩
  ·rw[if_neg h1]at h;cases h
theorem ze6{α:Type}{xs:List α}{i:Int}{v:α}(h:atI xs i=some v):∃j,seqIndex? i xs.length=some j/\xs[j]?=some v/\j<xs.length/\-(xs.length:Int)<=i/\i<xs.length:=by
 unfold atI at h
 cases e:ixN xs.length i with
 |none=>rw[e]at h;cases h
 |some j=>
  rw[e]at h;obtain⟨h1,h2,h3,h4⟩:=zjm e;exact⟨j,h1,h,h2,h3,h4⟩
theorem qm{α:Type}{xs:List α}{j:Nat}{v:α}(h:xs[j]?=some v):atI xs (j:Int)=some v:=by
 have hj:j<xs.length:=(List.getElem?_eq_some_iff.mp h).1;have e:ixN xs.length (j:Int)=some j:=by
  unfold ixN;rw[if_pos (by omega),if_pos (by omega)];simp
 unfold atI;rw[e];exact h
theorem zav{α:Type}(xs:List α)(v:α):atI (xs ++ [v]) (-1)=some v:=by
 have hl:(xs ++ [v]).length=xs.length+1:=by simp
 have e:ixN (xs ++ [v]).length (-1)=some xs.length:=by
  unfold ixN;rw[hl,if_neg (by decide),if_pos (by omega)];congr 1;omega
 unfold atI;rw[e];show(xs ++ [v])[xs.length]?=some v;simp
def ze7(b:Expr):Prop:=∀o i,subscripted b false o i=operate [o,i] (getItem o i)
def IxR(X:Cx)(r:R2):Prop :=
 ∀(value slice:Expr) (pins:List (Addr×Obj)) (s:Shared) (σ:St) (H:Hp) (x y:V) (v u:Value) (Q:VK),Inv X pins σ H s->RelV x v->RelV y u->r x y H Q ->
  subscripted slice false v u=operate [v,u] (getItem v u)->wpAny (model X.prog X.w) X.A (subscriptTail value slice v u) (EP X pins σ Q) X.xe s
def MtR(X:Cx)(id:String)(r:V->List V->Hp->VK->Prop):Prop :=
 ∀(pins:List (Addr×Obj)) (s:Shared) (σ:St) (H:Hp) (x:V) (xs:List V) (v:Value) (us:List Value) (Q:VK),Inv X pins σ H s->RelV x v->Vals xs us->r x xs H Q ->
  wpAny (model X.prog X.w) X.A (call (.builtin id) (v::us)) (EP X pins σ Q) X.xe s
section
variable {X:Cx}{a b:Expr}{ta tb:TE}{pos:Pos}
theorem IxR.or{r r':R2}(h:IxR X r)(h':IxR X r'):IxR X (λx y H Q=>r x y H Q\/r' x y H Q):=by
 intro value slice pins s σ H x y v u Q I rx ry q hs;rcases q with q|q
 ·exact h value slice pins s σ H x y v u Q I rx ry q hs
 ·exact h' value slice pins s σ H x y v u Q I rx ry q hs
theorem zaw{r:R2}(hr:IxR X r)(ha:PE X a ta)(hb:PE X b tb)(hs:ze7 b):PE X (.Subscript a b pos) (tOp r ta tb):=by
 intro pins s σ H Q I h;exact Subscript_ (zuq ha hb I h λv u s2 x y H2 I2 rx ry q=>hr a b pins s2 σ H2 x y v u Q I2 rx ry q (hs _ _))
def zuy(K:PySem.W.Frag):R2:=λx y H Q=>∃p xs i v,x=.ref p/\y=.int i/\SqL K H p xs/\atI xs i=some v/\Q v H
def zuz(K:PySem.W.Frag):R2:=λx y H Q=>∃p xs i v,x=.ref p/\y=.int i/\SqT K H p xs/\atI xs i=some v/\Q v H
def zu0:R2:=λx y H Q=>∃z i c,x=.str z/\y=.int i/\z.length<=sizeLine/\atI z.cps.toList i=some c/\Q (.str ⟨#[c]⟩) H
theorem ix_list:IxR X (zuy X.K):=by
 intro value slice pins s σ H x y v u Q I rx ry h hs;obtain⟨p,xs,i,z,rfl,rfl,hq,he,q⟩:=h
 cases rx;obtain⟨t,rfl⟩:=ry;obtain⟨its,r,pl,hz⟩:=I.list hq;obtain⟨j,h1,h2,h3,h4,h5⟩:=ze6 he;obtain⟨w,ew,rw'⟩:=r.get h2;have hl:=r.length;have hn:=zal;have fin:EP X pins σ Q w s:=⟨z,H,I,rw',q⟩
 by_cases h0:0<=i
 ·have hj:i.toNat=j:=by
   rw[seqIndex_of h0 h5]at h1;exact Option.some.inj h1
  exact item_listR pl.isList h0 (by omega) (by rw[hj];simpa using ew) fin hs
 ·have hj:(i+(its.toArray.size:Int)).toNat=j:=by
   rw[seqIndex_neg (by omega) h4]at h1;rw[List.size_toArray,<-hl];exact Option.some.inj h1
  exact subscriptTail_builtinR (x:=w) pl.isList.typeIs slot_list_getitem.lookup
   (wpAny_getItem_list_neg (Q:=λr s'=>r=w/\EP X pins σ Q r s') pl.isList (by omega) (by rw[List.size_toArray] <;> omega) (by omega) (by rw[hj];simpa using ew) ⟨rfl,fin⟩) hs
theorem ix_tup:IxR X (zuz X.K):=by
 intro value slice pins s σ H x y v u Q I rx ry h hs;obtain⟨p,xs,i,z,rfl,rfl,hq,he,q⟩:=h
 cases rx;obtain⟨t,rfl⟩:=ry;obtain⟨its,r,pl,hz⟩:=I.tuple hq;obtain⟨j,h1,h2,h3,h4,h5⟩:=ze6 he;obtain⟨w,ew,rw'⟩:=r.get h2;have hl:=r.length;have hn:=zal;have fin:EP X pins σ Q w s:=⟨z,H,I,rw',q⟩
 exact subscriptTail_builtinR (x:=w) pl.typeIs slot_tuple_getitem.lookup
  (getItem_tuple (j:=j) (Q:=λr s'=>r=w/\EP X pins σ Q r s') pl (by omega) (by omega) (by rw[List.size_toArray,<-hl];exact h1) (by simpa using ew) ⟨rfl,fin⟩) hs
theorem zsv:IxR X zu0:=by
 intro value slice pins s σ H x y v u Q I rx ry h hs;obtain⟨z,i,c,rfl,rfl,hz,he,q⟩:=h;obtain⟨t,rfl⟩:=rx;obtain⟨t',rfl⟩:=ry;obtain⟨j,h1,h2,h3,h4,h5⟩:=ze6 he;have hl:z.cps.toList.length=z.length:=by simp[Str.length]
 rw[hl]at h1 h4 h5;have hn:=zal;exact tail_any (typeIs_str s z t) slot_str_getitem.lookup (getItem_str (c:=c) (by
  have e1:decide (i < -(2 ^ 63:Int))=false:=decide_eq_false (by omega);have e2:decide (i ≥ 2 ^ 63)=false:=decide_eq_false (by omega);rw[e1,e2,Bool.or_false]) (by rw[h1];simpa using h2) ⟨.str ⟨#[c]⟩,H,I.tok _,⟨_,rfl⟩,q⟩) hs
def rIx(K:PySem.W.Frag):R2:=λx y H Q=>zuy K x y H Q\/zuz K x y H Q\/zu0 x y H Q
theorem zsw:IxR X (rIx X.K):=ix_list.or (ix_tup.or zsv)
theorem zh4(its:List Value)(n j:Nat)(u:Value):Obj.mapSeq (·.setIfInBounds j u) { cls:=.type "list",data:=.seq its.toArray n } = { cls:=.type "list",data:=.seq (its.set j u).toArray n }:=by
 simp[Obj.mapSeq]
theorem Inv.lst{pins:List (Addr×Obj)}{σ:St}{H:Hp}{s:Shared}{p:Addr}{xs:List V}(I:Inv X pins σ H s)(h:H p=some (.lst xs)):
  ∃(its:List Value) (n:Nat),Vals xs its/\s.heap.get? p=some { cls:=.type "list",data:=.seq its.toArray n }/\xs.length<=sizeLine:=by
 obtain⟨z,its,n,r,e⟩:=I.hok p _ h;exact⟨its,n,r,e,z⟩
theorem Inv.lstUpd{pins:List (Addr×Obj)}{σ:St}{H:Hp}{s:Shared}{p:Addr}{xs ys:List V}{its its':List Value}{n n':Nat}{f:Obj->Obj}(I:Inv X pins σ H s)(h:H p=some (.lst xs))
  (ho:s.heap.get? p=some { cls:=.type "list",data:=.seq its.toArray n }) (hf:f { cls:=.type "list",data:=.seq its.toArray n } = { cls:=.type "list",data:=.seq its'.toArray n' }) (r:Vals ys its') (hz:ys.length<=sizeLine) (t:Nat) :
  Inv X pins σ (upd H p (.lst ys)) { s with heap:=s.heap.update p f,toks:=t }:=by
 have e:(s.heap.update p f).get? p=some { cls:=.type "list",data:=.seq its'.toArray n' }:=by
  rw[Heap.get?_update_self f ho (by rw[hf] <;> rfl),hf]
 refine I.write (x:=p) (e:=p) (by rw[h];trivial) (.inl rfl) (λb u hb q=>(Heap.get?_update_other _ _ (Ne.symm hb)).trans q) ⟨_,e⟩ ?_;exact⟨hz,its',n',r,e⟩
def zu1:V->V->V->Hp->(Hp->Prop)->Prop:=λo i v H Q=>∃p xs k j,o=.ref p/\i=.int k/\H p=some (.lst xs)/\ixN xs.length k=some j/\Q (upd H p (.lst (xs.set j v)))
theorem zgd:zuo X zu1:=by
 intro pins s σ H o i v ov iv u Q I ro ri rv h;obtain⟨p,xs,k,j,rfl,rfl,hp,hj,q⟩:=h
 cases ro;obtain⟨t,rfl⟩:=ri;obtain⟨its,n,r,ho,hz⟩:=I.lst hp;obtain⟨h1,h2,h3,h4⟩:=zjm hj;have hl:=r.length;have hn:=zal;have I':Inv X pins σ (upd H p (.lst (xs.set j v))) { s with heap:=s.heap.update p (Obj.mapSeq (·.setIfInBounds j u)) } :=
  I.lstUpd hp ho (zh4 its n j u) (r.set rv j) (by rw[List.length_set];exact hz) s.toks
 by_cases h0:0<=k
 ·have hk:k.toNat=j:=by
   rw[seqIndex_of h0 h4]at h1;exact Option.some.inj h1
  exact PySem.W.ki_setAt ho h0 (by omega) (by rw[List.size_toArray,<-hl];exact h4) (by rw[hk];exact⟨_,I',q⟩)
 ·have hk:(k+(its.toArray.size:Int)).toNat=j:=by
   rw[seqIndex_neg (by omega) h3]at h1;rw[List.size_toArray,<-hl];exact Option.some.inj h1
  exact PySem.W.ki_setBack ho (by omega) (by rw[List.size_toArray,<-hl];exact h3) (by omega) (by rw[hk];exact⟨_,I',q⟩)
theorem ze8(lo hi:Option Int)(n:Nat):(sliceBounds lo hi none n).1=((HT.sIx n 0 lo:Nat):Int)/\(sliceBounds lo hi none n).2.1=((HT.sIx n n hi:Nat):Int)/\(sliceBounds lo hi none n).2.2=1:=by
 refine⟨?_,?_,rfl⟩
 ·cases lo with
  |none=>simp[sliceBounds,HT.sIx]
  |some i=>
   simp only[sliceBounds,HT.sIx,Option.getD_none,show(1:Int) > 0 by decide,if_true]
   by_cases h:i<0
   ·simp only[h,if_true] <;> omega
   ·simp only[h,if_false] <;> omega
 ·cases hi with
  |none=>simp[sliceBounds,HT.sIx]
  |some i=>
   simp only[sliceBounds,HT.sIx,Option.getD_none,show(1:Int) > 0 by decide,if_true]
   by_cases h:i<0
   ·simp only[h,if_true] <;> omega
   ·simp only[h,if_false] <;> omega
theorem zdl(its:List Value)(lo hi:Option Int):slicePick its.toArray lo hi none=((its.drop (HT.sIx its.length 0 lo)).take (HT.sIx its.length its.length hi-HT.sIx its.length 0 lo)).toArray:=by
 obtain⟨h1,h2,h3⟩:=ze8 lo hi its.toArray.size;unfold slicePick;rw[h1,h2,h3];simp only[sliceRange_one,pick_run,List.size_toArray] <;> rfl
def zwd(K:PySem.W.Frag):V->Option Int->Option Int->Hp->VK->Prop:=λx lo hi H Q=>∃a xs,x=.ref a/\SqL K H a xs/\∀p,H p=none->Q (.ref p) (upd H p (.lst (zdk xs lo hi)))
theorem zjn:SlR X (zwd X.K):=by
 intro pins s σ H x v vl vu lo hi sl Q I rx hs pl pu h;obtain⟨a,xs,rfl,hx,q⟩:=h
 cases rx;obtain⟨its,r,ht,hz⟩:=I.list hx;have hlen:=r.length;refine⟨"list",_,slot_list_getitem.lookup,ht.isList.typeIs,?_⟩;refine wpAny_getItem_list_slice ht.isList hs pl pu .none (by simp) ?_ (by rw[List.size_toArray] <;> omega);rw[zdl,<-hlen];refine⟨.ref s.heap.objs.size,_,I.laid (t':=s.toks) (o:=.lst (zdk xs lo hi)) (λb ob q=>Heap.get?_push_of_some _ q) (Nat.le_refl _) ?_,rfl,q _ (I.hok.fresh (Nat.le_refl _))⟩;exact⟨Nat.le_trans (zbu xs lo hi) hz,_,0,(r.drop (HT.sIx xs.length 0 lo)).take (HT.sIx xs.length xs.length hi-HT.sIx xs.length 0 lo),Heap.get?_push_size _ rfl⟩
theorem ze9:w6 X (.builtin "len") (λxs H Q=>∃p ys,xs = [.ref p]/\(SqL X.K H p ys\/SqT X.K H p ys)/\Q (.int ys.length) H):=by
 intro pins s σ H xs us Q I r h;obtain⟨p,ys,rfl,hq,q⟩:=h;obtain⟨u,rfl,rx⟩:=zcf r
 cases rx;have hn:=zal;rcases hq with hq|hq
 ·obtain⟨its,r',pl,hz⟩:=I.list hq;have hlen:=r'.length;exact Calls.call_len_list pl.isList (by simp only[List.size_toArray] <;> omega) ⟨.int ys.length,H,I.tok _,⟨s.toks+1,by rw[List.size_toArray,hlen]⟩,q⟩
 ·obtain⟨its,r',pl,hz⟩:=I.tuple hq;have hlen:=r'.length;exact len_tuple pl (by simp only[List.size_toArray] <;> omega) ⟨.int ys.length,H,I.tok _,⟨s.toks+1,by rw[List.size_toArray,hlen]⟩,q⟩
theorem zfa:w6 X (.type "list") (λxs H Q=>∃p ys,xs = [.ref p]/\(SqL X.K H p ys\/SqT X.K H p ys)/\∀l,H l=none->Q (.ref l) (upd H l (.lst ys))):=by
 intro pins s σ H xs us Q I r h;obtain⟨p,ys,rfl,hq,q⟩:=h;obtain⟨u,rfl,rx⟩:=zcf r
 cases rx;have fin:∀(its:List Value),Vals ys its->ys.length<=sizeLine->∀(h':Heap) (c':Nat),(∀b o',s.heap.get? b=some o'->h'.get? b=some o') ->
   h'.get? s.heap.objs.size=some { cls:=.type "list",dict:=none,data:=.seq its.toArray c',slots:=#[] }->EP X pins σ Q (.ref s.heap.objs.size) { s with heap:=h' }:=λits r' hz h' c' kp e=>
  ⟨.ref s.heap.objs.size,_,I.laid (t':=s.toks) kp (Nat.le_refl _) (show ObjOk X.prog X.w _ h' _ (.lst ys) from⟨hz,its,c',r',e⟩),rfl,q _ (I.hok.fresh (Nat.le_refl _))⟩
 rcases hq with hq|hq
 ·obtain⟨its,r',pl,hz⟩:=I.list hq;have hlen:=r'.length;obtain⟨o,ho,hc,n,hd⟩:=pl.isList;exact call_list_seq p (.inl rfl) ho hc hd (λh' c' kp e=>fin its r' hz h' c' kp e) (by simp only[List.size_toArray] <;> omega)
 ·obtain⟨its,r',pl,hz⟩:=I.tuple hq;have hlen:=r'.length;obtain⟨o,ho,hc,n,hd⟩:=pl;exact call_list_seq p (.inr rfl) ho hc hd (λh' c' kp e=>fin its r' hz h' c' kp e) (by simp only[List.size_toArray] <;> omega)
theorem zdm:w6 X (.type "tuple") (λxs H Q=>∃p ys,xs = [.ref p]/\((SqL X.K H p ys/\∀l,H l=none->Q (.ref l) (upd H l (.tup ys)))\/(SqT X.K H p ys/\Q (.ref p) H))):=by
 intro pins s σ H xs us Q I r h;obtain⟨p,ys,rfl,h⟩:=h;obtain⟨u,rfl,rx⟩:=zcf r
 cases rx;rcases h with⟨hq,q⟩ |⟨hq,q⟩
 ·obtain⟨its,r',pl,hz⟩:=I.list hq;have hlen:=r'.length;refine call_tuple_list pl.isList (λh' kp=>?_) (by simp only[List.size_toArray] <;> omega);have I1:Inv X pins σ H { s with heap:=h' }:=I.kept (t':=s.toks) kp
  have I2:Inv X pins σ (upd H h'.objs.size (.tup ys)) { s with heap:=h'.push { cls:=.type "tuple",data:=.seq its.toArray } } :=
   I1.laid (t':=s.toks) (λb o e=>Heap.get?_push_of_some _ e) (Nat.le_refl _) (show ObjOk X.prog X.w _ _ _ (.tup ys) from⟨hz,its,r',TupD.new _ _⟩)
  exact⟨.ref h'.objs.size,_,I2,rfl,q _ (I1.hok.fresh (Nat.le_refl _))⟩
 ·obtain⟨its,r',pl,hz⟩:=I.tuple hq;exact call_tuple_same pl ⟨.ref p,H,I,rfl,q⟩
def tyV(K:PySem.W.Frag)(T:String)(x:V)(H:Hp):Prop:=match x with
 |.str _=>T = "str"
 |.int _=>T = "int"
 |.ref p=>(T = "list" /\ ∃xs,SqL K H p xs)\/(T = "tuple" /\ ∃xs,SqT K H p xs) \/
   (T = "dict" /\((∃kvs,H p=some (.dK kvs))\/∃kvs,H p=some (.dT kvs)))\/(T = "set" /\ ∃S n,H p=some (.set S n))
 |_=>False
theorem zsx{pins:List (Addr×Obj)}{σ:St}{H:Hp}{s:Shared}{T:String}{x:V}{v:Value}(I:Inv X pins σ H s)(r:RelV x v)(ty:tyV X.K T x H):
  s.TypeIs v T/\∀a,v=.ref a->∃ob,s.heap.get? a=some ob/\ob.dict=none:=by
 cases x with
 |str z=>
  obtain⟨t,rfl⟩:=r
  cases (show T = "str" from ty);exact⟨typeIs_str s z t,λ_ e=>nomatch e⟩
 |int i=>
  obtain⟨t,rfl⟩:=r
  cases (show T = "int" from ty);exact⟨typeIs_int s i t,λ_ e=>nomatch e⟩
 |ref p=>
  cases r;rcases ty with⟨rfl,xs,hq⟩ |⟨rfl,xs,hq⟩ |⟨rfl,hk⟩ |⟨rfl,S,n,hk⟩
  ·obtain⟨its,_,pl,_⟩:=I.list hq;refine⟨pl.isList.typeIs,λa e=>?_⟩
   cases e;obtain⟨o,n,e,c,hd,_⟩:=pl;exact⟨o,e,hd⟩
  ·obtain⟨its,_,pl,_⟩:=I.tupleD hq;refine⟨pl.isTup.typeIs,λa e=>?_⟩
   cases e;obtain⟨o,e,_,_,hd⟩:=pl;exact⟨o,e,hd⟩
  ·have z:∃o,s.heap.get? p=some o/\o.ExactDict:=by
    rcases hk with⟨kvs,hk⟩ |⟨kvs,hk⟩
    ·obtain⟨_,_,_,_,o,_,_,e,ex,_⟩:=I.hok p _ hk;exact⟨o,e,ex⟩
    ·obtain⟨_,_,_,_,o,_,_,e,ex,_⟩:=I.hok p _ hk;exact⟨o,e,ex⟩
   obtain⟨o,e,ex⟩:=z;refine⟨⟨o,e,ex.1⟩,λa e2=>?_⟩
   cases e2;exact⟨o,e,ex.2.1⟩
  ·obtain⟨o,_,_,_,e,ex,_⟩:=I.hok p _ hk;refine⟨⟨o,e,ex.1⟩,λa e2=>?_⟩
   cases e2;exact⟨o,e,ex.2.1⟩
 |_=>exact False.elim ty
def tBM(K:PySem.W.Frag)(T:String)(r:V->List V->Hp->VK->Prop)(to:TE)(t:TA):TE:=λσ H Q=>to σ H λx H1=>tyV K T x H1/\t σ H1 λxs H2=>r x xs H2 Q
variable {o e:Expr}{es:List Expr}{to:TE}{t:TA}{name:Str}{apos cpos:Pos}{T id:String}{r:V->List V->Hp->VK->Prop}
theorem zcj(pa:PlainAttrs T)(slot:Slot T name id)(hty:typeOf (.builtin id)=pure (.type "method_descriptor"))(hm:MtR X id r)(ho:PE X o to)(ha:PA X (e::es) t)
  (hbase:attributeBase o name X.env (eval o X.env)=eval o X.env:=by rfl)
  (hfew:((backTo cpos (starEach (e::es) X.env)).all (λx=>!x.1) && (backToKw cpos (keywordEach [] X.env)).all (λx=>x.1.isSome)
   && decide ((e::es).length+([]:List Keyword).length+(if ([]:List Keyword).isEmpty then 0 else 1)<30))=true:=by rfl)
  (hline:(apos.endLine == cpos.line)=true:=by rfl) (hs:starEach (e::es) X.env=(false,eval e X.env)::starEach es X.env:=by rfl) (hplain:(backTo cpos (starEach es X.env)).any (·.1)=false:=by rfl) :
  PE X (.Call (.Attribute o name apos) (e::es) [] cpos) (tBM X.K T r to t):=by
 intro pins s σ H Q I h;refine wpAny_Call_method_late hbase hfew hline rfl (thn (ho pins s σ H _ I h) λv s1 ⟨x,H1,I1,r1,ty,q1⟩=>?_);obtain⟨h1,h2⟩:=zsx I1 r1 ty;refine⟨T,id,pa,slot,hty,h1,h2,?_⟩;have hA:=ha cpos pins s1 σ H1 _ I1 q1;rw[hs]at hA ⊢;refine Calls.callWith_builtin (by show(false ||(backTo cpos (starEach es X.env)).any (·.1))=false;rw[hplain] <;> rfl) (Calls.evalArgs_plain ?_);exact thn hA λus s2 ⟨vs,H2,I2,r2,q2⟩=>hm pins s2 σ H2 x vs v us Q I2 r1 r2 q2
end
def MtM(X:Cx)(id:String)(r:V->List V->Hp->VK->Prop):Prop :=
 ∀(pins:List (Addr×Obj)) (s:Shared) (σ:St) (H:Hp) (x:V) (xs:List V) (v:Value) (us:List Value) (Q:VK),Inv X pins σ H s->RelV x v->Vals xs us->r x xs H Q ->
  wpAny (model X.prog X.w) X.A (call (.builtin id) (v::us)) (EP X pins σ Q) X.xe s
theorem Vals.one{x:V}{us:List Value}(h:Vals [x] us):∃u,us = [u]/\RelV x u:=by
 cases h with
 |cons r h=>cases h;exact⟨_,rfl,r⟩
theorem Vals.two{x y:V}{us:List Value}(h:Vals [x,y] us):∃u v,us = [u,v]/\RelV x u/\RelV y v:=by
 cases h with
 |cons r h=>obtain⟨v,rfl,q⟩:=Vals.one h;exact⟨_,v,rfl,r,q⟩
theorem Vals.eraseIdx:∀{xs:List V}{us:List Value} (i:Nat),Vals xs us->Vals (xs.eraseIdx i) (us.eraseIdx i)
 |_,_,_,.nil=>.nil
 |_,_,0,.cons _ t=>t
 |_,_,i+1,.cons r t=>.cons r (Vals.eraseIdx i t)
theorem Vals.reverse{xs:List V}{us:List Value}(h:Vals xs us):Vals xs.reverse us.reverse:=by
 induction h with
 |nil=>exact .nil
 |cons r t ih=>rw[List.reverse_cons,List.reverse_cons];exact Vals.append ih (.cons r .nil)
theorem Vals.rep{xs:List V}{us:List Value}(h:Vals xs us):∀k:Nat,Vals (List.replicate k xs).flatten (List.replicate k us).flatten
 |0=>.nil
 |k+1=>by
  rw[List.replicate_succ,List.replicate_succ,List.flatten_cons,List.flatten_cons];exact Vals.append h (Vals.rep h k)
theorem zea{α:Type}:∀(l:List α) (i:Nat),(l.eraseIdx i).length<=l.length
 |[],_=>Nat.le_refl _
 |_::_,0=>Nat.le_succ _
 |_::r,i+1=>Nat.succ_le_succ (zea r i)
theorem zeb(its:List Value):∀(k:Nat) (acc:List Value),
  List.foldl (λx1 x2=>x1++x2) acc.toArray (List.replicate k its.toArray)=(acc++(List.replicate k its).flatten).toArray
 |0,acc=>by simp
 |k+1,acc=>by
  have e:acc.toArray++its.toArray=(acc++its).toArray:=by simp
  have e2:(acc++its)++(List.replicate k its).flatten=acc++(List.replicate (k+1) its).flatten:=by
   rw[List.replicate_succ,List.flatten_cons,List.append_assoc]
  rw[<-e2,<-zeb its k (acc++its),<-e,List.replicate_succ,List.foldl_cons]
section
variable {X:Cx}{pins:List (Addr×Obj)}{σ:St}{H:Hp}{s:Shared}{l b:Addr}{xs ys zs:List V}
theorem Inv.lset{its its':List Value}{n:Nat}{f:Array Value->Array Value}{t':Nat}(I:Inv X pins σ H s)(hH:H l=some (.lst xs))
  (e:s.heap.get? l=some { cls:=.type "list",data:=.seq its.toArray n }) (hf:f its.toArray=its'.toArray) (hv:Vals ys its') (hz:ys.length<=sizeLine) :
  Inv X pins σ (upd H l (.lst ys)) { s with heap:=s.heap.update l (Obj.mapSeq f),toks:=t' }:=by
 have q:=PySem.IsL.update e f;rw[hf]at q;refine I.write (x:=l) (e:=l) (by rw[hH];exact trivial) (.inl rfl) (λb' u hb hu=>(Heap.get?_update_other s.heap (Obj.mapSeq f) (Ne.symm hb)).trans hu) ⟨_,q⟩ ?_;exact⟨hz,its',_,hv,q⟩
theorem Inv.lnew{its:List Value}{t':Nat}(I:Inv X pins σ H s)(hv:Vals ys its)(hz:ys.length<=sizeLine):
  Inv X pins σ (upd H s.heap.objs.size (.lst ys)) { s with heap:=s.heap.push { cls:=.type "list",data:=.seq its.toArray },toks:=t' } :=
 I.laid (λ_ _ q=>Heap.get?_push_of_some _ q) (Nat.le_refl _) ⟨hz,its,0,hv,Heap.get?_push_size _ rfl⟩
theorem Inv.fresh(I:Inv X pins σ H s):H s.heap.objs.size=none:=I.hok.fresh (Nat.le_refl _)
theorem Inv.lstM(I:Inv X pins σ H s)(hH:H l=some (.lst xs)):xs.length<=sizeLine/\∃(its:List Value) (n:Nat),Vals xs its/\xs.length=its.length/\s.heap.get? l=some { cls:=.type "list",data:=.seq its.toArray n }:=by
 obtain⟨z,its,n,r,e⟩:=I.hok l _ hH;exact⟨z,its,n,r,r.length,e⟩
theorem zge{n:Nat}(h:n<=sizeLine):Builtin.List.listTooLong n=false:=by
 unfold Builtin.List.listTooLong;exact decide_eq_false (by omega)
end
section
variable {X:Cx}
def zpq:V->List V->Hp->VK->Prop:=λx vs H Q=>∃l xs y,x=.ref l/\vs = [y]/\H l=some (.lst xs)/\xs.length<sizeLine/\Q .non (upd H l (.lst (xs ++ [y])))
theorem jw:MtM X "list.append" zpq:=by
 intro pins s σ H x vs v us Q I rx rv h;obtain⟨l,xs,y,rfl,rfl,hH,hz,q⟩:=h
 cases rx;obtain⟨u,rfl,ru⟩:=rv.one;obtain⟨z,its,n,r,hl,e⟩:=I.lstM hH;refine call_meets F.slot_list_append ⟨_,e,rfl⟩ F.entry_list_append (F.args_list_append_2 _ _) (PySem.list_append l its.toArray n u (by rw[List.size_toArray];omega)) ⟨e,?_⟩;refine⟨.non,_,I.lset (its':=its ++ [u]) hH e (by simp) (r.append (.cons ru .nil)) ?_,rfl,q⟩;rw[List.length_append,List.length_singleton];omega
def zpr:V->List V->Hp->VK->Prop:=λx vs H Q=>∃l b xs zs,x=.ref l/\vs = [.ref b]/\H l=some (.lst xs)/\H b=some (.lst zs)/\xs.length+zs.length<=sizeLine/\Q .non (upd H l (.lst (xs++zs)))
theorem zk3:MtM X "list.extend" zpr:=by
 intro pins s σ H x vs v us Q I rx rv h;obtain⟨l,b,xs,zs,rfl,rfl,hH,hB,hz,q⟩:=h
 cases rx;obtain⟨u,rfl,ru⟩:=rv.one
 cases ru;obtain⟨z,its,n,r,hl,e⟩:=I.lstM hH;obtain⟨z2,its2,n2,r2,hl2,e2⟩:=I.lstM hB;have hsz:its.toArray.size+its2.toArray.size<=sizeLine:=by rw[List.size_toArray,List.size_toArray];omega
 have hlong:¬ (!its.toArray.isEmpty && Builtin.List.listTooLong (its.toArray.size+its2.toArray.size))=true:=by
  rw[zge hsz,Bool.and_false];exact Bool.false_ne_true
 refine call_meets F.slot_list_extend ⟨_,e,rfl⟩ F.entry_list_extend (F.args_list_extend_2 _ _)
  (AutoSeq1.list_extend_list_list_0 l its.toArray n b its2.toArray n2 hlong (by rw[List.size_toArray];omega) (by omega)) ⟨e,e2,?_⟩
 refine⟨.non,_,I.lset (its':=its++its2) hH e (by simp) (r.append r2) ?_,rfl,q⟩;rw[List.length_append];omega
def zsy:V->List V->Hp->VK->Prop:=λx vs H Q=>∃l xs i k y,x=.ref l/\vs = [.int i]/\H l=some (.lst xs)/\-(2 ^ 63)<=i/\i<2 ^ 63/\seqIndex? i xs.length=some k/\xs[k]?=some y/\Q y (upd H l (.lst (xs.eraseIdx k)))
theorem zmy:MtM X "list.pop" zsy:=by
 intro pins s σ H x vs v us Q I rx rv h;obtain⟨l,xs,i,k,y,rfl,rfl,hH,h1,h2,hk,hy,q⟩:=h
 cases rx;obtain⟨u,rfl,ru⟩:=rv.one;obtain⟨t,rfl⟩:=ru;obtain⟨z,its,n,r,hl,e⟩:=I.lstM hH;obtain⟨w,hw,rw'⟩:=r.get hy;refine call_meets F.slot_list_pop ⟨_,e,rfl⟩ F.entry_list_pop (F.args_list_pop_2 _ _)
  (MeetsSeq.list_pop_at l its.toArray n i t k w (fitsIndex_both h1 h2) (by rw[List.size_toArray,<-hl];exact hk) (by rw[<-Array.getElem?_toList];exact hw) (by rw[List.size_toArray];omega)) ⟨e,?_⟩
 refine⟨y,_,I.lset (its':=its.eraseIdx k) hH e ?_ (r.eraseIdx k) ?_,rw',q⟩
 ·show its.toArray.eraseIdxIfInBounds k=(its.eraseIdx k).toArray;rw[List.eraseIdxIfInBounds_toArray]
 ·have:=zea xs k;omega
theorem zps{α:Type}(xs:List α)(k:Nat):(List.replicate k xs).flatten.length=k * xs.length:=by
 induction k with
 |zero=>simp
 |succ k ih=>rw[List.replicate_succ,List.flatten_cons,List.length_append,ih,Nat.succ_mul,Nat.add_comm]
end
end L2
namespace Att
open PySem PySem.W PySem.Calls PyProof.Rows
theorem zb1{P:Params}{h:Heap}:∀(ns:List Int) (vs:List Value),WellAll P h vs (ns.map WData.int)->IntsAre vs ns:=by
 intro ns
 induction ns with
 |nil=>
  intro vs w;rw[List.map_nil]at w
  cases w;exact .nil
 |cons n ns ih=>
  intro vs w;rw[List.map_cons]at w
  cases w with
  |cons a b=>
   cases a;exact .cons _ _ (ih _ b)
theorem zk4{l:OpenLaw}{n:Nat}(hn:l.most=some n){P:Params}{h:Heap}{args:List WData}{vals:List Value}
  (hpre:l.row.toRowW.claim.pre args=true) (hwl:WellAll P h vals args) :
  ∃a vs ns,vals = [Value.ref a]/\args = [WData.list (ns.map WData.int)]/\h.get? a=some { cls:=.type "list",data:=.seq vs.toArray }/\IntsAre vs ns/\ns.length<=n:=by
 have hsh:WShape.hasAll [] args [.list .int]=true:=(pre_splitW hpre).1;have hc:l.pre.holds [] { args:=args }=true:=(pre_splitW hpre).2;obtain⟨d,r,rfl,h1,h2⟩:=hasAllW_cons hsh;obtain rfl:=hasAllW_nil h2;obtain⟨xs,rfl,h3⟩:=hasW_list h1;obtain⟨ns,rfl⟩:=items_int h3;have hlen:ns.length<=n:=by
  unfold OpenLaw.pre at hc;have h4:(WTm.not (.lt (.lit (.int (n:Int))) (.len (.arg 0)))).holds [] { args:=[.list (ns.map .int)] }=true:=by
   have h4:=(holds_andW hc).1;rw[hn]at h4;exact h4
  have h5:=condW_of h4 (w_not (w_lt w_lit (w_len_list (w_arg rfl))));rw[List.length_map]at h5;refine Nat.le_of_not_lt λq=>?_;have q':(n:Int)<((ns.length:Nat):Int):=by omega
  first
   |(rw[decide_eq_true q']at h5;exact absurd h5 (by decide))
   |(simp at h5;omega)
 cases hwl with
 |cons w1 w2=>
  cases w2
  cases w1 with
  |list ho hall=>exact⟨_,_,ns,rfl,rfl,ho,zb1 ns _ hall,hlen⟩
theorem zk5(l:OpenLaw)(args:List WData):l.row.toRowW.claim.post args (.bool true) args=true :=
 postW_of (r:=l.row.toRowW) (X:=(true == true))
  (show WShape.has [] (.bool true) .bool=true by first|rfl|decide|simp[WShape.has,WShape.arms,WShape.armsAll])
  (show(WTm.eq .res (.lit (.bool true))).value [] { args:=args,res:=some (.bool true),after:=args }=some (.bool (true == true)) from w_eq_bool (w_res rfl) w_lit) rfl
theorem attach_call{l:OpenLaw}{n:Nat}{q:Program}{loose:List Str}{XP:(Str->Option Value)->Heap->Prop}{YP:World->Heap->Prop}{d:DefRec}
  (hn:l.most=some n) (hdf:d.params.defaults = [])
  (call:∀(w:World) (s₀ s₁:Shared) (mg mb:Str->Option Value) (fa:Addr) (o:Obj) (pm cd doc:Value) (a:Addr) (vs:List Value) (ns:List Int),
   Ground q loose [] XP w s₀ mg mb s₁.heap->YP w s₁.heap ->
   s₁.heap.get? fa=some o->o.data=.func (docDef d.name d.params d.body d.scope pm cd doc)->s₁.heap.CodeRec cd d.name->mg d.name=some (.ref fa) ->
   s₁.heap.get? a=some { cls:=.type "list",data:=.seq vs.toArray }->IntsAre vs ns->ns.length<=n->s₁.gens = #[] ->
   codeAny (model l.prog w) callerA (.call (.ref fa) ⟨[.ref a],[]⟩) (λr s'=>r=.ok (.ret (.bool true))/\OldK s₁.heap s'.heap/\s'.os=s₁.os/\AllBare s'.gens) s₁) :
  WalkO q loose XP YP l.row.toRowW d [] (λf vs=>PySem.call f vs):=by
 intro w s₀ s₁ mg mb G Y fa o pm cd doc dV kV ho hd hcd hD hmg hg args vals as hpre hlay hrd hwl hlo;obtain rfl:dV=.none:=Dflts.none hD hdf;obtain rfl:kV=.none:=Dflts.noKw hD;obtain⟨a,vs,ns,rfl,rfl,hobj,hints,hlen⟩:=zk4 hn hpre hwl;refine enter_call (codeAny_mono (call w s₀ s₁ mg mb fa o pm cd doc a vs ns G Y ho (fd_plain hd) hcd hmg hobj hints hlen hg) λr s' hq=>?_);obtain⟨rfl,h2,h3,h4⟩:=hq;exact⟨.inl ⟨.bool true,.bool true,[],rfl,λ_=>rfl,.bool true,zk5 l _,λ_=>⟨List.Pairwise.nil,λ_ hm=>(nomatch hm)⟩⟩,h2,h3,h4⟩
end Att
namespace L2
open PySem PySem.Spec PyProof.Rows
theorem zec:∀{vs:List Value}{ns:List Int},IntsAre vs ns->Vals (ns.map V.int) vs
 |_,_,.nil=>.nil
 |_,_,.cons n t h=>.cons ⟨t,rfl⟩ (zec h)
def qo(s:Stmt)(j:Nat):Stmt:=match s with
 |.ClassDef _ _ _ body _ _ _ _ _ _ _=>body.getD j (.Pass ⟨0,0,0,0⟩)
 |_=>.Pass ⟨0,0,0,0⟩
def zm(s:Stmt):Arguments:=match s with
 |.FunctionDef _ a _ _ _ _ _ _ _ _=>a
 |_=>{ posonlyargs:=[],args:=[],vararg:=none,kwonlyargs:=[],kw_defaults:=[],kwarg:=none,defaults:=[] }
def zh(s:Stmt):List Stmt:=match s with
 |.FunctionDef _ _ b _ _ _ _ _ _ _=>b
 |_=>[]
def zc(s:Stmt):Scope:=match s with
 |.FunctionDef _ _ _ _ _ _ sc _ _ _=>sc
 |_=>{ kind:=.function,names:=[],isGenerator:=false,isCoroutine:=false }
abbrev CX0:CXT:=λ_ _ _ _ _ _=>False
abbrev E0:XK:=λ_ _ _=>False
theorem zrl{X:Cx}:zh1 CX0 X E0:=λ_ _ _ _ _ _ _ h=>h.elim
structure Fun(K:PySem.W.Frag)(x qual:Str)(st:Stmt)(f:Addr)(fd:FuncData):Prop where
 ex:∃(oc:Value) (od:Option Addr) (kV doc pm:Value) (an:Option Addr) (cdv ct:Value) (osl:Array (Option Value)),
  fd=PySem.W.fnOf x qual (zm st) (zh st) (zc st) .none kV doc pm an cdv ct/\K.lookup f=some ⟨oc,od,.func fd,osl⟩/\PySem.W.codeIn K cdv qual=true
 kp:PySem.W.keepIn K (.ref f)=true
section
variable {P:Program}{w:World}{K:PySem.W.Frag}{mg:Str->Option Value}{base:Heap}
theorem Fun.ok{x qual:Str}{st:Stmt}{f:Addr}{fd:FuncData}{N ps:List Str}{k:Nat}{sp:Sp}(F:Fun K x qual st f fd)(S:yb N ps (zc st))(len:∀vs H Q E,sp vs H Q E->vs.length=ps.length)
  (hbody:∀(cdv:Value) (A:Around) (outer:List Env) (s:Shared) (H:Hp) (vs:List V) (Q:VK) (E:XK),Room k (A.deeper (envOfC qual (zc st) s.heap.objs.size f cdv))->sp vs H Q E ->
   ∃t,PSs (vj CX0 P w K mg base N qual (zc st) f cdv A outer s H E).nox (zh st) t/\t { nx:=λ_ H'=>Q .non H',rt:=Q } (qa N vs) H):FnOk P w K mg base CX0 (k+1) f fd ps sp:=by
 obtain⟨oc,od,kV,doc,pm,an,cdv,ct,osl,rfl,lk,hcd⟩:=F.ex;refine zmw lk hcd S len λA outer s H vs Q E hr hsp=>?_;obtain⟨t,h,q⟩:=hbody cdv A outer s H vs Q E hr hsp;exact⟨t,h.nox,q⟩
theorem Fun.binds{x qual:Str}{st:Stmt}{f:Addr}{fd:FuncData}{ps:List Str}(F:Fun K x qual st f fd)
  (h:∀(kV doc pm:Value) (an:Option Addr) (cdv ct:Value) (us:List Value),us.length=ps.length->bindArgs (PySem.W.fnOf x qual (zm st) (zh st) (zc st) .none kV doc pm an cdv ct) ⟨us,[]⟩=pure (ps.zip us)):Binds K fd ps []:=by
 obtain⟨oc,od,kV,doc,pm,an,cdv,ct,osl,rfl,lk,hcd⟩:=F.ex;exact .all (h kV doc pm an cdv ct)
theorem yx{x qual:Str}{st:Stmt}{f:Addr}{oc:Value}{od an:Option Addr}{osl:Array (Option Value)}{kV doc pm cdv ct:Value}(l:K.lookup f=some ⟨oc,od,.func (PySem.W.fnOf x qual (zm st) (zh st) (zc st) .none kV doc pm an cdv ct),osl⟩)
  (c:PySem.W.codeIn K cdv qual=true) (k:PySem.W.keepIn K (.ref f)=true):Fun K x qual st f (PySem.W.fnOf x qual (zm st) (zh st) (zc st) .none kV doc pm an cdv ct):=⟨⟨oc,od,kV,doc,pm,an,cdv,ct,osl,rfl,l,c⟩,k⟩
end
section
variable {X:Cx}
theorem pv(i:Nat){x:Str}{pos:Pos}(hN:X.N[i]?=some x:=by rfl)(hv:Vis X.env.scope x:=by first|exact Or.inl rfl|exact Or.inr (Or.inl rfl)|exact Or.inr (Or.inr rfl))(hd:(x ==("__debug__" : Str))=false:=by decide)
  (hcd:(x ==("__classdict__" : Str))=false:=by decide):PE X (.Name x pos) (zui i):=wu hN hv hd hcd
end
theorem zwe{A B:Prop}(h:B):if false=true then A else B:=by
 rw[if_neg Bool.false_ne_true];exact h
theorem zu2{c A B:Prop}[Decidable c](h1:c->A)(h2:¬ c->B):if c then A else B:=by
 by_cases h:c
 ·rw[if_pos h];exact h1 h
 ·rw[if_neg h];exact h2 h
def Same(H H':Hp):Prop:=∀b o,H b=some o->H' b=some o
theorem Same.refl(H:Hp):Same H H:=λ_ _ h=>h
theorem Same.trans{H H1 H2:Hp}(a:Same H H1)(b:Same H1 H2):Same H H2:=λc o h=>b c o (a c o h)
theorem Same.free{H H':Hp}(e:Same H H'){l:Addr}(h:H' l=Option.none):H l=Option.none:=by
 cases q:H l with
 |none=>rfl
 |some o=>
  rw[e l o q]at h
  cases h
theorem Same.seq{K:PySem.W.Frag}{H H':Hp}{a:Addr}{xs:List V}(e:Same H H')(h:SqL K H a xs):SqL K H' a xs:=by
 rcases h with(h |⟨o,h⟩)|h
 ·exact .inl (.inl (e _ _ h))
 ·exact .inl (.inr ⟨o,e _ _ h⟩)
 ·exact .inr h
theorem gg{P:Prop}(h:∀G:Prop,(P->G)->G):P:=h P id
theorem zfb{prog:Program}{w:World}{A:Around}{R:Result->Shared->Prop}{s:Shared}{elt target iter:Expr}{ifs:List Expr}{scope:Scope}{pos:Pos}{it acc:Value}{env:Env}(I:Nat->Shared->Prop)
  (turn:∀n s,I n s->wpAny (model prog w) A (pyNext it) (λr s1=>match r with
   |none=>R (.ok .next) s1
   |some v=>wpAny (model prog w) A (letOwnedTupleGo target it v) (λ_ s1'=>wpAny (model prog w) A (assign target env v) (λ_ s2=>
     wpAny (model prog w) A (forIn ifs true λc r=>if r=true then do let ok <-isTrue c env (eval c env);pure (ForInStep.yield ok) else pure (ForInStep.yield r)) (λok s3=>
      if ok=true then wpAny (model prog w) A (eval elt env) (λx s4=>
       wpAny (model prog w) A (call (.builtin "list.append") [acc,x]) (λ_ s5=>∃m,m<n/\I m s5) (λ_ _=>False) s4) (λ_ _=>False) s3
      else ∃m,m<n/\I m s3) (λ_ _=>False) s2) (λ_ _=>False) s1') (λ_ _=>False) s1) (λ_ _=>False) s)
  (n:Nat) (h:I n s) :
  codeAny (model prog w) A (.compLoop (.ListComp elt [⟨target,iter,ifs,0⟩] scope pos) 0 it acc env) R s:=by
 refine codeAny_loop rfl I (λn s hI=>?_) n h;show wpAny _ A ((compTurn (.ListComp elt [⟨target,iter,ifs,0⟩] scope pos) 0 it acc env).onRaise (λx=>do noteFrame x env;theTreesLotGoes x)) _ _ s;refine wpAny_noted ?_;rw[compTurn_list];refine wpAny_bind (wpAny_standAt (wpAny_bind (wpAny_mono (turn n s hI) (λr s₁ h₁=>?_) λ_ _ h'=>h'.elim)))
 cases r with
 |none=>exact wpAny_pure h₁
 |some v=>
  refine wpAny_bind (wpAny_mono h₁ (λ_ s₁' h₁'=>?_) λ_ _ h'=>h'.elim);refine wpAny_bind (wpAny_mono h₁' (λ_ s₂ h₂=>wpAny_bind (wpAny_mono h₂ (λok s₃ h₃=>?_) λ_ _ h'=>h'.elim)) λ_ _ h'=>h'.elim)
  cases ok with
  |false=>exact wpAny_pure ⟨rfl,h₃⟩
  |true=>
   exact wpAny_bind (wpAny_bind (wpAny_mono h₃ (λx s₄ h₄=>wpAny_bind (wpAny_mono h₄ (λ_ s₅ h₅=>wpAny_pure (wpAny_pure ⟨rfl,h₅⟩)) λ_ _ h'=>h'.elim)) λ_ _ h'=>h'.elim))
inductive Capt(X:Cx)(scope:Scope)(cl:List (Str×Addr)):List Str->List Nat->Prop
 |nil:Capt X scope cl [] []
 |cons {x:Str}{j:Nat}{xs:List Str}{js:List Nat} (h1:X.N[j]?=some x) (h2:X.env.kindOf x=some .cell\/X.env.kindOf x=some .free) (h3:cl.lookup x=X.env.cells.lookup x)
  (h4:(relabel scope X.env).names.lookup x=some .cell\/(relabel scope X.env).names.lookup x=some .free) (t:Capt X scope cl xs js):Capt X scope cl (x::xs) (j::js)
theorem Capt.get{X:Cx}{scope:Scope}{cl:List (Str×Addr)}:∀{xs:List Str}{js:List Nat},Capt X scope cl xs js->xs.length=js.length/\∀(i:Nat) (x:Str) (j:Nat),xs[i]?=some x->js[i]?=some j->X.N[j]?=some x/\(X.env.kindOf x=some .cell\/X.env.kindOf x=some .free)/\cl.lookup x=X.env.cells.lookup x /\
  ((relabel scope X.env).names.lookup x=some .cell\/(relabel scope X.env).names.lookup x=some .free)
 |_,_,.nil=>⟨rfl,λi x j h=>by simp at h⟩
 |_,_,.cons h1 h2 h3 h4 t=>⟨by simp[t.get.1],λi x j hx hj=>by
  cases i with
  |zero=>simp at hx hj;subst hx hj;exact⟨h1,h2,h3,h4⟩
  |succ i=>exact t.get.2 i x j (by simpa using hx) (by simpa using hj)⟩
inductive SubC(X:Cx):List (Str×Addr)->Prop
 |nil:SubC X []
 |cons {x:Str}{c:Addr}{cl:List (Str×Addr)} (h:X.env.cells.lookup x=some c) (t:SubC X cl):SubC X ((x,c)::cl)
theorem SubC.of{X:Cx}:∀{cl:List (Str×Addr)},SubC X cl->∀x c,cl.lookup x=some c->X.env.cells.lookup x=some c
 |_,.nil,x,c,h=>by simp at h
 |_,.cons (x:=y) (c:=d) h0 t,x,c,h=>by
  rw[List.lookup_cons]at h
  cases e:x == y with
  |true=>
   rw[e]at h;have:x=y:=by simpa using e
   subst this;rw[h0];simpa using h
  |false=>rw[e]at h;exact t.of x c (by simpa using h)
def yh(X:Cx)(N':List Str)(scope:Scope)(cl:List (Str×Addr))(C:Addr)(fp:List Addr)(s2:Shared)(H2:Hp):Cx where
 prog:=X.prog
 w:=X.w
 K:=X.K
 mg:=X.mg
 base:=X.base
 A:=X.A
 N:=N'
 s₀:=s2
 H₀:=H2
 env:=compEnvC scope cl C X.env
 outer:=X.stack
 stack:=X.stack
 ex:=fp
 fn:=λ_=>false
 calm:=true
 pn:=[]
 xe:=λ_ _=>False
def xf(k:Nat)(js:List Nat)(σ:St):St:=List.replicate k none++js.map λj=>(σ[j]?).join
def PTs(X:Cx)(ifs:List Expr)(t:TT):Prop :=
 ∀(pins:List (Addr×Obj)) (s:Shared) (σ:St) (H:Hp) (Q:Bool->Hp->Prop),Inv X pins σ H s->t σ H Q ->
  wpAny (model X.prog X.w) X.A (forIn ifs true λc r=>if r=true then do let ok <-isTrue c X.env (eval c X.env);pure (ForInStep.yield ok) else pure (ForInStep.yield r)) (TP X pins σ Q) X.xe s
def zu3:TT:=λ_ H Q=>Q true H
theorem zpt{X:Cx}:PTs X [] zu3:=λ_ _ _ H _ I h=>wpAny_tests_nil ⟨H,I,h⟩
theorem zpu{X:Cx}{c:Expr}{t:TT}(hc:PT X c t):PTs X [c] t:=λpins s σ H Q I h=>wpAny_tests_one (hc pins s σ H Q I h)
def zfc(J:It)(D:Addr)(g:TG)(tt:TT)(te:TE)(σ0:St)(H1:Hp)(Q:VK):Prop :=
 ∃W:Nat->Nat->St->Hp->Prop,(∃m,W 0 m σ0 (upd H1 D (.lst [])))/\∀i m σ H,W i m σ H ->
  (J.stop i H/\Q (.ref D) H)\/(J.go i H/\∀x H',J.yld i H x H'->g x σ H' λσ2 H2=>tt σ2 H2 λb H3=>
   if b=true then te σ2 H3 λy H4=>∃ys,H4 D=some (.lst ys)/\ys.length<sizeLine/\∃m',m' < m/\W (i+1) m' σ2 (upd H4 D (.lst (ys ++ [y])))
   else ∃m',m' < m/\W (i+1) m' σ2 H3)
def tLC(k:Nat)(js:List Nat)(wi:TI)(g:TG)(tt:TT)(te:TE):TE:=λσ H Q=>wi σ H λJ H1=>∀D,H1 D=none->zfc J D g tt te (xf k js σ) H1 Q
section
variable {X:Cx}
theorem zrm{N':List Str}{scope:Scope}{cl:List (Str×Addr)}{fp:List Addr}{pins:List (Addr×Obj)}{σ:St}{H2:Hp}{s2:Shared}{C:Addr}(I:Inv X pins σ H2 s2)(hc:X.calm=true)(hkind:scope.kind=.function)(hC:s2.heap.objs.size<=C)
  (hsub:SubC X cl) (hhas:(relabel scope X.env).names.all (λp=>(p.2 != .cell && p.2 != .free) ||(cl.lookup p.1).isSome)=true)
  (hf:∀b∈fp,FpOk X pins H2 b) (ho:∀b∈fp,∃o,s2.heap.get? b=some o/\∀v,o.data ≠ .cell v):(yh X N' scope cl C fp s2 H2).Ok where
 mod:=I.ok.mod
 kind:=hkind
 glob:=I.ok.glob
 blt:=I.ok.blt
 above:=hC
 inj:=λx y c h1 h2=>I.ok.inj x y c (hsub.of x c h1) (hsub.of y c h2)
 has:=λx hx=>by
  have hx:(relabel scope X.env).names.lookup x=some .cell\/(relabel scope X.env).names.lookup x=some .free:=hx;have key:∀k,(relabel scope X.env).names.lookup x=some k->(k=.cell\/k=.free)->∃c,cl.lookup x=some c:=λk hk hkk=>by
   have hm:=PySem.mem_of_lookup hk;have:=List.all_eq_true.mp hhas _ hm;rcases hkk with rfl|rfl <;> exact Option.isSome_iff_exists.mp (by simpa using this)
  rcases hx with hx|hx
  ·exact key _ hx (.inl rfl)
  ·exact key _ hx (.inr rfl)
 cab:=λx c h=>by cases h
 hd:=λ_=>I.ok.hd hc
 frames:=I.ok.frames
 stk:=.inl rfl
 exf:=λb hb=>by
  obtain⟨o,e,_⟩:=ho b hb;obtain⟨f0,f1,f2,f3,f4,f5⟩:=hf b hb;exact⟨Nat.ne_of_lt (Nat.lt_of_lt_of_le (Heap.lt_size e) hC),λx c h=>f4 x c (hsub.of x c h)⟩
 bs:=I.bs
 bsz:=Nat.le_trans I.ok.bsz I.sz
 noex:=λb o e hb=>by
  obtain⟨f0,f1,f2,f3,f4,f5⟩:=hf b hb;rcases f3 with z|z
  ·exact I.ok.noex b o e z
  ·exact absurd (Nat.lt_of_lt_of_le (Heap.lt_size e) (Nat.le_trans I.ok.bsz z)) (Nat.lt_irrefl _)
 exfs:=λb hb z=>by
  obtain⟨f0,f1,f2,f3,f4,f5⟩:=hf b hb;exact(List.mem_cons.mp (I.stkSub b z)).elim f1 f2
 funs:=I.stack
 frf:=I.stkFree
theorem zgf{N' capt:List Str}{k:Nat}{js:List Nat}{scope:Scope}{cl:List (Str×Addr)}{fp:List Addr}{pins:List (Addr×Obj)}{σ:St}{H2:Hp}{s2:Shared}{D C:Addr}{h4:Heap}{t4:Nat}{m:Str->Option Value}(I:Inv X pins σ H2 s2)(ok:(yh X N' scope cl C fp s2 H2).Ok)
  (hD:s2.heap.objs.size<=D) (hC:s2.heap.objs.size<=C) (hDC:D≠C) (keep:∀b o,s2.heap.get? b=some o->h4.get? b=some o) (hns:h4.Ns C m)
  (hl:h4.get? D=some { cls:=.type "list",data:=.seq #[] 0 })
  (hsub:SubC X cl) (hcap:Capt X scope cl capt js) (hN:N'=N'.take k++capt) (hk:k<=N'.length) :
  Inv (yh X N' scope cl C fp s2 H2) [] (xf k js σ) (upd H2 D (.lst [])) { s2 with heap:=h4,toks:=t4 }:=by
 have below:∀b o,s2.heap.get? b=some o->b≠D/\b≠C:=λb o e=>⟨Nat.ne_of_lt (Nat.lt_of_lt_of_le (Heap.lt_size e) hD),Nat.ne_of_lt (Nat.lt_of_lt_of_le (Heap.lt_size e) hC)⟩
 have hlen:N'.length=k+capt.length:=by
  have:=congrArg List.length hN;rw[List.length_append,List.length_take]at this;omega
 refine⟨ok,rfl,I.bare,Un.laid keep hD (I.hok.fresh hD),⟨m,hns,λi x v h1 h2 h3=>?_⟩,λx c h=>?_,?_,λx c h=>?_,λp hp=>absurd (show p∈([]:List (Addr×Obj)) from hp) (by simp),?_,?_⟩
 ·have h1:N'[i]?=some x:=h1;unfold xf at h2
  by_cases hi:i<k
  ·rw[List.getElem?_append_left (by simpa using hi),List.getElem?_replicate]at h2;rw[if_pos hi]at h2
   cases h2
  ·rw[List.getElem?_append_right (by simpa using hi),List.length_replicate,List.getElem?_map]at h2
   have hx:capt[i-k]?=some x:=by
    rw[hN,List.getElem?_append_right (by rw[List.length_take];omega),List.length_take]at h1;rw[show min k N'.length=k by omega]at h1;exact h1
   cases ej:js[i-k]? with
   |none=>rw[ej]at h2;cases h2
   |some j=>
    rw[ej]at h2;have h2':(σ[j]?).join=some v:=Option.some.inj h2;obtain⟨q1,q2,q3,q4⟩:=hcap.get.2 _ _ _ hx ej;have hv:σ[j]?=some (some v):=by
     cases e:σ[j]? with
     |none=>rw[e]at h2';cases h2'
     |some o=>rw[e]at h2';cases o with
      |none=>cases h2'
      |some v'=>simpa using h2'
    obtain⟨m0,hn0,hl0⟩:=I.loc;obtain⟨u,r,l⟩:=hl0 j x v q1 hv (by rcases q2 with z|z;exact .inr (.inl z);exact .inr (.inr z));refine⟨u,r,?_⟩;rcases l with⟨z,_⟩ |⟨_,c,e,o,z1,z2⟩
    ·rcases q2 with q|q <;> · rw[q]at z;cases z
    ·exact .inr ⟨q4,c,q3.trans e,o,keep c o z1,z2⟩
 ·obtain⟨v,o,z1,z2⟩:=I.cell x c (hsub.of x c h);exact⟨v,o,keep c o z1,z2⟩
 ·show upd H2 D (.lst []) C=none;rw[zn (Ne.symm hDC)];exact I.hok.fresh hC
 ·obtain⟨v,o,z1,z2⟩:=I.cell x c (hsub.of x c h);show upd H2 D (.lst []) c=none;rw[zn (below c o z1).1];exact I.freeC x c (hsub.of x c h)
 ·exact I.hok.laid keep hD ⟨Nat.zero_le _,[],0,.nil,hl⟩
 ·show(xf k js σ).length=N'.length;unfold xf;rw[List.length_append,List.length_replicate,List.length_map,hlen,hcap.get.1]
structure zdn(X:Cx)(scope:Scope)(cl:List (Str×Addr))(N' capt:List Str)(k:Nat)(js:List Nat):Prop where
 clos:closureFor scope X.env=pure cl
 cell:∀y∈scope.names,y.2 ≠ .cell
 kind:scope.kind=.function
 names:∀y∈scope.names,y.2=.local->scope.names.lookup y.1=some .local
 sub:SubC X cl
 has:(relabel scope X.env).names.all (λp=>(p.2 != .cell && p.2 != .free) ||(cl.lookup p.1).isSome)=true
 cap:Capt X scope cl capt js
 hN:N'=N'.take k++capt
 hk:k<=N'.length
def LcEnd(X:Cx)(pins:List (Addr×Obj))(σ:St)(Q:VK)(acc:Value)(C:Addr)(r:Result)(s':Shared):Prop :=
 ∃(f:Flow) (D:Addr) (H':Hp) (m:Str->Option Value),r=.ok f/\acc=.ref D/\Inv X pins σ H' s'/\Q (.ref D) H'/\s'.heap.Ns C m/\H' C=none/\C≠X.env.locals/\X.s₀.heap.objs.size<=C/\(∀x c,X.env.cells.lookup x=some c->c≠C)/\∀p∈X.pn++pins,p.1≠C
theorem LcEnd.let_go{pins:List (Addr×Obj)}{σ':St}{H':Hp}{C:Addr}{s'':Shared}{h':Heap}(I:Inv X pins σ' H' s'')(hn:H' C=none)(h1:C≠X.env.locals)(h2:X.s₀.heap.objs.size<=C)(h3:∀x c,X.env.cells.lookup x=some c->c≠C)(h4:∀p∈X.pn++pins,p.1≠C)
  (hs:Heap.SameBut C s''.heap h'):Inv X pins σ' H' { s'' with heap:=h' } :=
 I.turned (t':=s''.toks) (λb o hb e=>(hs.2 b hb).trans e) hn h1 (.inr h2) h3 h4
theorem zgg{elt tg iter:Expr}{ifs:List Expr}{scope:Scope}{pos:Pos}{cl:List (Str×Addr)}{N' capt:List Str}{k:Nat}{js:List Nat}{g:TG}{tt:TT}{te:TE}{J:It}{fp:List Addr}{tn:Nat->Heap->Prop}{it:Addr}
  {pins:List (Addr×Obj)}{σ:St}{H2:Hp}{s2:Shared}{Q:VK}{E:Value->Shared->Prop} (hc:X.calm=true) (L:zdn X scope cl N' capt k js)
  (hg:∀C fp s2 H2,PG (yh X N' scope cl C fp s2 H2) tg g) (ht:∀C fp s2 H2,PTs (yh X N' scope cl C fp s2 H2) ifs tt) (he:∀C fp s2 H2,PE (yh X N' scope cl C fp s2 H2) elt te)
  (I2:Inv X pins σ H2 s2) (T:zf9 X.prog X.w X.K tg J fp it tn) (st2:tn 0 s2.heap) (f2:∀b∈fp,FpOk X pins H2 b) (q:∀D,H2 D=none->zfc J D g tt te (xf k js σ) H2 Q) :
  wpAny (model X.prog X.w) X.A (newList []) (λacc s3=>wpAny (model X.prog X.w) X.A (newFunctionEnv scope X.env.globals cl [] X.env.qual none .none (some X.env)) (λcenv s4=>
   codeAny (model X.prog X.w) X.A (.compStart (.ListComp elt [⟨tg,iter,ifs,0⟩] scope pos) 0 (.ref it) acc { cenv with scope:=relabel scope X.env }) (LcEnd X pins σ Q acc cenv.locals) s4) E s3) E s2:=by
 refine wpAny_newObj_type (wpAny_newFunctionEnv L.cell (by intro y hy;simp at hy) (λh₁ hns₁ hsb₁=>?_) L.kind);dsimp only at hns₁ hsb₁ ⊢;generalize hH2:s2.heap.push { cls:=.type "list",dict:=none,data:=.seq ([]:List Value).toArray }=G at hns₁ hsb₁ ⊢;have hC:G.objs.size=s2.heap.objs.size+1:=by rw[<-hH2,Heap.size_push]
 have hDC:s2.heap.objs.size≠G.objs.size:=by rw[hC];exact Nat.ne_of_lt (Nat.lt_succ_self _)
 have hCle:s2.heap.objs.size<=G.objs.size:=by rw[hC];exact Nat.le_succ _
 have below:∀b,b<s2.heap.objs.size->b≠G.objs.size:=λb hb=>by rw[hC];exact Nat.ne_of_lt (Nat.lt_succ_of_lt hb)
 have keep:∀b o,s2.heap.get? b=some o->h₁.get? b=some o:=λb o e=>hsb₁.extBut b o (below b (Heap.lt_size e)) (Heap.get?_push_of_some _ (hH2 ▸ Heap.get?_push_of_some _ e));have hl:h₁.get? s2.heap.objs.size=some { cls:=.type "list",data:=.seq #[] 0 }:=hsb₁.extBut _ _ hDC (Heap.get?_push_of_some _ (hH2 ▸ Heap.get?_push_size _ rfl));have ho2:=T.obj _ _ st2;have ok:(yh X N' scope cl G.objs.size fp s2 H2).Ok:=zrm I2 hc L.kind hCle L.sub L.has f2 ho2;generalize hD:s2.heap.objs.size=D at hl hDC ⊢;generalize hCC:G.objs.size=C at hns₁ hsb₁ hDC hC hCle below ok ⊢;have hDle:s2.heap.objs.size<=D:=by rw[hD];exact Nat.le_refl _
 have I4:Inv (yh X N' scope cl C fp s2 H2) [] (xf k js σ) (upd H2 D (.lst [])) { s2 with heap:=h₁,toks:=s2.toks+([]:List (Str×Value)).length } :=
  zgf I2 ok hDle hCle hDC keep hns₁ hl L.sub L.cap L.hN L.hk
 obtain⟨W,⟨m0,w0⟩,turn⟩:=q D (I2.hok.fresh hDle);have tn0:tn 0 h₁:=T.keep _ _ _ st2 λb _ o e=>keep b o e;have fr0:∀b∈fp,upd H2 D (.lst []) b=none:=λb hb=>by
  obtain⟨o,e,_⟩:=ho2 b hb;rw[zn (Nat.ne_of_lt (Nat.lt_of_lt_of_le (Heap.lt_size e) hDle))];exact(f2 b hb).1
 have stat:∀{H':Hp},(∀b∈fp,H' b=none)->∀b∈fp,FpOk (yh X N' scope cl C fp s2 H2) [] H' b:=λhn b hb=>by
  refine⟨hn b hb,(ok.exf b hb).1,ok.exfs b hb,.inl hb,(ok.exf b hb).2,λp hp=>absurd (show p∈([]:List (Addr×Obj)) from hp) (by simp)⟩
 have loop:∀s₃:Shared,s₃ = { s2 with heap:=h₁,toks:=s2.toks+([]:List (Str×Value)).length } ->
   codeAny (model X.prog X.w) X.A (.compLoop (.ListComp elt [⟨tg,iter,ifs,0⟩] scope pos) 0 (.ref it) (.ref D) (compEnvC scope cl C X.env)) (LcEnd X pins σ Q (.ref D) C) s₃:=by
  rintro s₃ rfl;refine zfb (λn s'=>∃i σ' H',Inv (yh X N' scope cl C fp s2 H2) [] σ' H' s'/\tn i s'.heap/\(∀b∈fp,H' b=none)/\W i n σ' H') ?_ m0 ⟨0,_,_,I4,tn0,fr0,w0⟩;intro n s3 zz;refine gg λG zk=>?_;obtain⟨i,σ3,H3,I3,st3,fr3,w3⟩:=zz;refine zk ?_;clear zk;rcases turn i n σ3 H3 w3 with⟨stop,qn⟩ |⟨go,step⟩
  ·refine thn (T.done (yh X N' scope cl C fp s2 H2) rfl rfl rfl rfl i [] s3 σ3 H3 (λ_ _=>False) I3 (stat fr3) st3 stop) λr s4 ⟨hr,J4⟩=>?_;subst hr;obtain⟨m,hn,_⟩:=id J4.loc;have hs:X.s₀.heap.objs.size<=C:=Nat.le_trans I2.sz hCle;refine⟨.next,D,H3,m,rfl,rfl,I2.call' (ch:=fp) J4.os J4.base J4.hok J4.bare (λb hb=>?_),qn,hn,J4.free,λz=>?_,hs,λx c h z=>?_,λp hp z=>?_⟩
   ·obtain⟨f0,f1,f2',f3,f4,f5⟩:=f2 b hb;exact⟨f3,f1,f4,f5⟩
   ·have:=I2.lt;rw[<-z]at this;exact absurd (Nat.lt_of_lt_of_le this hCle) (Nat.lt_irrefl _)
   ·obtain⟨v,o,z1,_⟩:=I2.cell x c h;have:=Heap.lt_size z1;rw[z]at this;exact absurd (Nat.lt_of_lt_of_le this hCle) (Nat.lt_irrefl _)
   ·have:=Heap.lt_size (I2.pin p hp).1;rw[z]at this;exact absurd (Nat.lt_of_lt_of_le this hCle) (Nat.lt_irrefl _)
  ·refine thn (T.item (yh X N' scope cl C fp s2 H2) rfl rfl rfl rfl i [] s3 σ3 H3 (λ_ _=>False) I3 (stat fr3) st3 go) λr s4 ⟨u,hr,h4⟩=>?_;subst hr;refine thn h4 λ_ s5 zr4=>?_;obtain⟨x,H5,I5,r5,y5,st5,fr5⟩:=zr4;have I5':=I5.pinned (stat fr5) (T.obj _ _ st5);refine thn (hg C fp s2 H2 _ s5 σ3 H5 x u _ I5' r5 (step x H5 y5)) λ_ s6 zr6=>?_;obtain⟨σ6,H6,I6,q6⟩:=zr6;refine thn (ht C fp s2 H2 _ s6 σ6 H6 _ I6 q6) λok s7 ⟨H7,I7,q7⟩=>?_
   have again:∀{H8:Hp}{s8:Shared},Inv (yh X N' scope cl C fp s2 H2) ([]++zak fp s5.heap) σ6 H8 s8->(∃m',m' < n/\W (i+1) m' σ6 H8)->∃m,m<n/\∃i σ' H',Inv (yh X N' scope cl C fp s2 H2) [] σ' H' s8/\tn i s8.heap/\(∀b∈fp,H' b=none)/\W i m σ' H':=λ{H8 s8} I8 n8=>by
    obtain⟨m',hm,w8⟩:=n8;refine⟨m',hm,i+1,σ6,H8,I8.unpinned,T.keep _ _ _ st5 λb hb o e=>(I8.pin (b,o) (List.mem_append_right _ (List.mem_append_right _ (wv hb e)))).1,λb hb=>?_,w8⟩;obtain⟨o,e,d⟩:=T.obj _ _ st5 b hb;exact(I8.pin (b,o) (List.mem_append_right _ (List.mem_append_right _ (wv hb e)))).2.1
   cases ok with
   |false=>
    rw[if_neg Bool.false_ne_true]at q7;exact again I7 q7
   |true=>
    rw[if_pos rfl]at q7;refine thn (he C fp s2 H2 _ s7 σ6 H7 _ I7 q7) λy s8 zr19=>?_;obtain⟨v8,H8,I8,r8,q8⟩:=zr19;obtain⟨ys,e8,z8,w8⟩:=q8;refine thn (jw (X:=yh X N' scope cl C fp s2 H2) _ s8 σ6 H8 (.ref D) [v8] (.ref D) [y] (λv H=>∃m',m' < n/\W (i+1) m' σ6 H) I8 rfl (.cons r8 .nil) ⟨D,ys,v8,rfl,rfl,e8,z8,w8⟩) λ_ s9 zr21=>?_;obtain⟨v9,H9,I9,_,w9⟩:=zr21;exact again I9 w9
 exact codeAny_compStart_list (loop _ rfl) (T.self _ 0 _ _ _ tn0 (loop _ rfl))
theorem zu4{elt tg iter:Expr}{ifs:List Expr}{scope:Scope}{pos:Pos}{cl:List (Str×Addr)}{N' capt:List Str}{k:Nat}{js:List Nat}{wi:TI}{g:TG}{tt:TT}{te:TE}(hc:X.calm=true)(L:zdn X scope cl N' capt k js)
  (hi:PI X tg iter wi) (hg:∀C fp s2 H2,PG (yh X N' scope cl C fp s2 H2) tg g) (ht:∀C fp s2 H2,PTs (yh X N' scope cl C fp s2 H2) ifs tt) (he:∀C fp s2 H2,PE (yh X N' scope cl C fp s2 H2) elt te)
  (hs:∀x,foldedSetIterable iter X.env x=pure x:=by intro _;rfl):PE X (.ListComp elt [⟨tg,iter,ifs,0⟩] scope pos) (tLC k js wi g tt te):=by
 intro pins s σ H Q I h;rw[eval_ListComp];refine wpAny_comprehension_free (use:=none) rfl hs L.clos L.kind L.names (thn (hi pins s σ H _ I h) λv s1 h1=>thn h1 λitv s2 h2=>?_);obtain⟨it,fp,tn,J,H2,e,I2,T,st2,f2,q⟩:=h2;subst e;refine thn (zgg (E:=X.xe) hc L hg ht he I2 T st2 f2 q) λacc s3 h3=>thn h3 λcenv s4 h4=>codeAny_mono h4 λr s' hr=>?_;obtain⟨f,D,H',m,rfl,rfl,J',qq,hn,b1,b2,b3,b4,b5⟩:=hr;exact⟨m,hn,λh' hsb=>⟨.ref D,H',LcEnd.let_go J' b1 b2 b3 b4 b5 hsb,rfl,qq⟩⟩
theorem zmz{i:Nat}{x:Str}{elt tg iter:Expr}{ifs:List Expr}{scope:Scope}{pos pos' spos:Pos}{cl:List (Str×Addr)}{N' capt:List Str}{k:Nat}{js:List Nat}{wi:TI}{g:TG}{tt:TT}{te:TE}(hN:X.N.Nodup)(hi':X.N[i]?=some x)(hx:Loc X.env.scope x)(hc:X.calm=true)(L:zdn X scope cl N' capt k js)
  (hi:PI X tg iter wi) (hg:∀C fp s2 H2,PG (yh X N' scope cl C fp s2 H2) tg g) (ht:∀C fp s2 H2,PTs (yh X N' scope cl C fp s2 H2) ifs tt) (he:∀C fp s2 H2,PE (yh X N' scope cl C fp s2 H2) elt te)
  (hsw:swapsWith (.ListComp elt [⟨tg,iter,ifs,0⟩] scope pos) (some (.Name x pos')) spos.line X.env=pure true:=by rfl)
  (hs:∀x,foldedSetIterable iter X.env x=pure x:=by intro _;rfl) (hf:X.fn x=true\/X.env.scope.names.lookup x=some .local:=by first|exact .inl rfl|exact .inr rfl|assumption):PS X (.Assign [.Name x pos'] (.ListComp elt [⟨tg,iter,ifs,0⟩] scope pos) spos) (zpk (tLC k js wi g tt te) (zmj i)):=by
 intro pins s σ H D I h;have h:tLC k js wi g tt te σ H (λv H1=>D.nx (σ.set i (some v)) H1):=h;rw[exec_Assign_Name_used _ _ _ _ hsw];refine wpAny_bind (wpAny_standAt (wpAny_bind ?_));show wpAny _ X.A (do let _ <-comprehension (.ListComp elt [⟨tg,iter,ifs,0⟩] scope pos) scope X.env _ (newList []) false (eval iter X.env) (some (assign (.Name x pos') X.env))) _ _ s;refine wpAny_bind (wpAny_mono (wpAny_comprehension_free (use:=some (assign (.Name x pos') X.env)) (Q:=λ_ s'=>SP X pins D .next s') rfl hs L.clos L.kind L.names
  (thn (hi pins s σ H _ I h) λv s1 h1=>thn h1 λitv s2 h2=>?_)) (λ_ s' hq=>wpAny_pure (wpAny_pure hq)) λ_ _ e=>e)
 obtain⟨it,fp,tn,J,H2,e,I2,T,st2,f2,q⟩:=h2;subst e;refine thn (zgg (E:=X.xe) hc L hg ht he I2 T st2 f2 q) λacc s3 h3=>thn h3 λcenv s4 h4=>codeAny_mono h4 λr s' hr=>?_;obtain⟨f,D',H',m,rfl,rfl,J',qq,hn,b1,b2,b3,b4,b5⟩:=hr;show wpAny _ X.A (assign (.Name x pos') X.env (.ref D')) _ _ _;refine wpAny_assign_Name (zbd (v:=.ref D') J' hN hi' hx rfl (λs'' J'' hsb=>?_) hf);obtain⟨a,hsb,ha⟩:=hsb;have hne:cenv.locals≠a:=by
  rcases ha with z|z
  ·rw[z];exact b2
  ·exact λz'=>b4 x a z z'.symm
 exact⟨m,hn.sameBut hsb hne,λh' hs'=>⟨_,H',LcEnd.let_go J'' b1 b2 b3 b4 b5 hs',qq⟩⟩
end
section
variable {X:Cx}{pins:List (Addr×Obj)}{σ:St}{H:Hp}{s:Shared}
theorem Inv.turnedNew{ch:List Addr}{p:Addr}{o:HO}{h':Heap}{t':Nat}(I:Inv X pins σ H s)(hch:∀b∈ch,FpOk X pins H b)(hp:s.heap.objs.size<=p)
  (k:∀b u,b∉ch->s.heap.get? b=some u->h'.get? b=some u) (new:ObjOk X.prog X.w (upd H p o) h' p o):Inv X pins σ (upd H p o) { s with heap:=h',toks:=t' }:=by
 have hn:=I.hok.fresh hp;have nch:∀b u,H b=some u->b∉ch:=λb u e z=>by rw[(hch b z).1]at e;cases e
 refine I.step (g':=s.gens) (d':=s.drawn) (ch:=ch) (λb hb=>?_) (λb u _ _ hc e _=>k b u hc e) (λb u _ _ hc e _=>⟨u.slots,k b u hc e⟩) (λb u hc e n=>?_) (λb u hc e=>⟨u,k b u hc e⟩)
  (λb xs e=>by rw[zn (z9 e hn)];exact e) (λb u xs e=>by rw[zn (z9 e hn)];exact e) (λb ps e=>⟨#[],by rw[zn (z9 e hn),e];simp⟩) (λm hm=>?_) (λb u e=>?_) I.bare
 ·obtain⟨f0,f1,f2,f3,f4,f5⟩:=hch b hb;exact⟨f3,f1,f4,f5⟩
 ·rw[zn (Nat.ne_of_lt (Nat.lt_of_lt_of_le (Heap.lt_size e) hp))];exact n
 ·obtain⟨o',es,ep,ho,r⟩:=hm;exact⟨o',es,ep,k _ o' (λz=>(hch _ z).2.1 rfl) ho,r⟩
 ·by_cases hb:b=p
  ·subst hb;rw[zj]at e
   cases e;exact new
  ·rw[zn hb]at e;refine(I.hok b u e).stay (λc v hc q=>k c v ?_ q) (λc q=>by rw[zn (z9 q hn)];exact q) (λc xs q=>by rw[zn (z9 q hn)];exact q) (λc _ _ q=>by rw[zn (z9 q hn)];exact q);rcases hc with z|z
   ·rw[z];exact nch b u e
   ·exact nch c _ z
theorem Inv.turnedL{ch:List Addr}{h':Heap}{t':Nat}(I:Inv X pins σ H s)(hch:∀b∈ch,FpOk X pins H b)
  (k:∀b u,b∉ch->s.heap.get? b=some u->h'.get? b=some u):Inv X pins σ H { s with heap:=h',toks:=t' }:=by
 have nch:∀b u,H b=some u->b∉ch:=λb u e z=>by rw[(hch b z).1]at e;cases e
 refine I.step (g':=s.gens) (d':=s.drawn) (ch:=ch) (λb hb=>?_) (λb u _ _ hc e _=>k b u hc e) (λb u _ _ hc e _=>⟨u.slots,k b u hc e⟩) (λb u hc e n=>n) (λb u hc e=>⟨u,k b u hc e⟩)
  (λb xs e=>e) (λb u xs e=>e) (λb ps e=>⟨#[],by rw[e];simp⟩) (λm hm=>?_) (λb u e=>?_) I.bare
 ·obtain⟨f0,f1,f2,f3,f4,f5⟩:=hch b hb;exact⟨f3,f1,f4,f5⟩
 ·obtain⟨o',es,ep,ho,r⟩:=hm;exact⟨o',es,ep,k _ o' (λz=>(hch _ z).2.1 rfl) ho,r⟩
 ·refine(I.hok b u e).stay (λc v hc q=>k c v ?_ q) (λc q=>q) λc xs q=>q;rcases hc with z|z
  ·rw[z];exact nch b u e
  ·exact nch c _ z
end
section
variable {X:Cx}
theorem zm0{X:Cx}(hc:X.calm=true):w6 X (.builtin "sum") (λxs H Q=>∃(p:Addr) (ns:List Int),xs = [.ref p]/\SqL X.K H p (ns.map V.int)/\Q (.int ns.sum) H):=by
 intro pins s σ H xs us Q I rv h;obtain⟨p,ns,rfl,hq,q⟩:=h;obtain⟨u,rfl,r1⟩:=rv.one
 cases r1;obtain⟨its,rvs,pl,hz⟩:=I.list hq;have hi:=vq rvs;obtain⟨xs,hxs⟩:=hi.allInts.items;have hl:=pl.isList;have hns:ns=numsOf its:=(hi.numsOf).symm;have hx2:its.toArray.toList=its:=rfl;rw[hxs]at hl;refine sum_intListG (I.ok.hd hc) hl λh' tk t' hk=>⟨.int ns.sum,H,I.kept hk,⟨t',?_⟩,q⟩
 rw[preSum_eq,List.take_of_length_le (by simp)];have:numsOf its=numsOf (intItems xs).toList:=by rw[<-hxs]
 rw[hns,this,nums_intItems]
theorem zk6{bs:List Bool}{its:List Value}(r:Vals (bs.map V.bl) its):(List.range its.toArray.size).all (λi=>bs.getD i true)=bs.all id:=by
 have hl:its.toArray.size=bs.length:=by have:=r.length;simp at this ⊢;omega
 rw[hl];clear hl r;apply Bool.eq_iff_iff.mpr;simp only[List.all_eq_true,List.mem_range,id];constructor
 ·intro h b hb;obtain⟨i,hi,e⟩:=List.getElem_of_mem hb;have:=h i hi;simp[List.getD,hi,e]at this;exact this
 ·intro h i hi;simp only[List.getD,List.getElem?_eq_getElem hi,Option.getD_some];exact h _ (List.getElem_mem hi)
theorem zm1{bs:List Bool}{its:List Value}(r:Vals (bs.map V.bl) its)(i:Nat)(v:Value)(h:its.toArray[i]?=some v):v=.bool (bs.getD i true):=by
 have h':its[i]?=some v:=by simpa using h
 have hi:i<its.length:=(List.getElem?_eq_some_iff.mp h').1;have hb:i<bs.length:=by have:=r.length;simp at this;omega
 obtain⟨u,hu,ru⟩:=r.get (i:=i) (x:=.bl bs[i]) (by simp[hb]);rw[h']at hu
 cases hu;have ru:v=.bool bs[i]:=ru;rw[ru];simp[List.getD,hb]
theorem zk7{A:Around}{E:Value->Shared->Prop}{s:Shared}{l:Addr}{its:Array Value}{Q:Value->Shared->Prop}{prog:Program}{w:World}(hl:s.heap.IsList l its)
  (h:∀s2:Shared,s2 = { s with heap:=s.heap.push { cls:=.type "list_iterator",data:=.fields #[.ref l,.int 0 0] } } ->
   (s2.heap.IsListIter s.heap.objs.size l 0/\s2.heap.IsList l its)->l≠s.heap.objs.size->Q (.ref s.heap.objs.size) s2) :
  wpAny (model prog w) A (pyIter (.ref l)) Q E s:=by
 have hlt:l<s.heap.objs.size:=by obtain⟨_,e,_⟩:=hl;exact Heap.lt_size e
 exact wpAny_pyIter_list hl (h _ rfl ⟨⟨_,Heap.get?_push_size _ rfl,rfl,rfl⟩,hl.push _⟩ (Nat.ne_of_lt hlt))
theorem zm2(hc:X.calm=true):w6 X (.builtin "all") (λxs H Q=>∃(p:Addr) (bs:List Bool),xs = [.ref p]/\SqL X.K H p (bs.map V.bl)/\Q (.bl (bs.all id)) H):=by
 intro pins s σ H xs us Q I rv h;obtain⟨p,bs,rfl,hq,q⟩:=h;obtain⟨u,rfl,r1⟩:=rv.one
 cases r1;obtain⟨its,rvs,pl,hz⟩:=I.list hq;refine call_all_walk (zk7 pl.isList λs2 e st hne=>?_);subst e;refine⟨_,_,_,_,_,_,λi=>bs.getD i true,rfl,Walks.list (A:=X.A.in1) (I.ok.hd hc) _ p hne its.toArray,st,λi v s Q E hP hQ=>?_,λh' tk hk=>?_⟩
 ·rw[zm1 rvs i v hP];exact wpAny_truthy_bool hQ
 ·rw[zk6 rvs];refine⟨.bl (bs.all id),H,I.kept (λb o e=>hk b o (λz=>?_) (Heap.get?_push_of_some _ e)),rfl,q⟩;rw[List.mem_singleton.mp z]at e;exact Nat.lt_irrefl _ (Heap.lt_size e)
def zu5(i j:Int):Prop:=0<j/\j<10000000000000000000000000000000000000000000000000000000000000
theorem zgh:OpR X (binaryOp .FloorDiv) (rI zu5 λi j=>.int (i / j)):=opI λi j _ _ _ _ _ hc q=>by
 have h0:j≠0:=by have:=hc.1;omega
 have e:i.fdiv j=i / j:=Int.fdiv_eq_ediv_of_nonneg i (by have:=hc.1;omega);refine floordiv_int h0 (by rw[e];exact q) (.inl (PyProof.noPylong_of_log2 ?_));have h1:j.natAbs<2 ^ 400:=Nat.lt_of_lt_of_le (show j.natAbs<10000000000000000000000000000000000000000000000000000000000000 by have h1:=hc.1;have h2:=hc.2;omega) (by decide +kernel);have h2:j.natAbs≠0:=by omega
 exact Nat.lt_of_lt_of_le ((Nat.log2_lt h2).mpr h1) (by decide)
end
def ym(P:Program)(w:World)(K:PySem.W.Frag)(mg:Str->Option Value)(base:Heap)(k:Nat)(x:Str)(ps:List Str)(sp:Sp):Prop :=
 ∃f fd,FnOk P w K mg base CX0 k f fd ps sp/\Binds K fd ps []/\PySem.W.keepIn K (.ref f)=true/\mg x=some (.ref f)
theorem zck{X:Cx}{k k':Nat}{x:Str}{ps:List Str}{sp:Sp}{e:Expr}{es:List Expr}{t:TA}{p pos:Pos}(C:ym X.prog X.w X.K X.mg X.base k x ps sp)(hr:Room k' X.A)(hg:Gl X x)(ha:PA X (e::es) t)(hk:k<=k':=by decide)
  (hdb:(x ==("__debug__" : Str))=false:=by decide) (he:starEach (e::es) X.env=(false,eval e X.env)::starEach es X.env:=by rfl) (hpl:(backTo pos (starEach es X.env)).any (·.1)=false:=by rfl) :
  PE X (.Call (.Name x p) (e::es) [] pos) (zjk sp [] E0 t):=by
 intro pins s σ H Q I h;obtain⟨f,fd,F,b,kp,m⟩:=C;exact zpm F (hr.mono hk) hg m kp b .nil zrl ha hdb he hpl pins s σ H Q I h
def But(p:Addr)(H H':Hp):Prop:=∀b o,b≠p->H b=some o->H' b=some o
theorem But.refl(p:Addr)(H:Hp):But p H H:=λ_ _ _ h=>h
theorem But.trans{p:Addr}{H H1 H2:Hp}(a:But p H H1)(b:But p H1 H2):But p H H2:=λc o n h=>b c o n (a c o n h)
theorem But.of_same{p:Addr}{H H':Hp}(h:Same H H'):But p H H':=λb o _ q=>h b o q
theorem But.write{p:Addr}{H:Hp}{o:HO}:But p H (upd H p o):=λb u n q=>by rw[zn n];exact q
theorem Same.but{p:Addr}{H H1 H2:Hp}(a:Same H H1)(hp:H p=none)(b:But p H1 H2):Same H H2:=λc o h=>b c o (z9 h hp) (a c o h)
theorem zy{H:Hp}{p:Addr}(h:H p=none)(o:HO):Same H (upd H p o):=λb u q=>by rw[zn (z9 q h)];exact q
def Pen(H:Hp)(p:Addr):Prop:=∃a b c:Int,H p=some (.lst [.int a,.int b,.int c])
theorem zm3{α:Type}{xs:List α}{k:Int}(h0:0<=k)(h1:k<xs.length):∃v,atI xs k=some v/\xs[k.toNat]?=some v:=by
 have hk:k.toNat<xs.length:=by omega
 have ek:k=((k.toNat:Nat):Int):=by omega
 have q:atI xs ((k.toNat:Nat):Int)=some xs[k.toNat]:=qm (List.getElem?_eq_getElem hk);rw[<-ek]at q;exact⟨_,q,List.getElem?_eq_getElem hk⟩
theorem zpv{ns:List Int}{k:Int}(h0:0<=k)(h1:k<ns.length):∃v:Int,atI (ns.map V.int) k=some (.int v)/\ns[k.toNat]?=some v:=by
 obtain⟨v,h,e⟩:=zm3 (xs:=ns.map V.int) h0 (by simpa using h1);rw[List.getElem?_map]at e
 cases q:ns[k.toNat]? with
 |none=>rw[q]at e;cases e
 |some n=>rw[q]at e;cases e;exact⟨n,h,rfl⟩
theorem pick{ns:List Int}{lo hi k:Int}(h0:0<=k)(h1:k<ns.length)(hb:∀x∈ns,lo<=x/\x<=hi):∃v:Int,atI (ns.map V.int) k=some (.int v)/\lo<=v/\v<=hi:=by
 obtain⟨v,hv,e⟩:=zpv (ns:=ns) h0 h1;exact⟨v,hv,hb v (List.mem_of_getElem? e)⟩
section
variable {prog:Program}{w:World}{A:Around}{E:Value->Shared->Prop}{s:Shared}
theorem zh5{it t:Addr}{i:Nat}{xs:Array Value}{x:Value}{Q:Value->Shared->Prop}(hi:s.heap.IsTupleIter it t i)(ht:s.heap.IsTuple t xs)(hx:xs[i]?=some x)
  (q:∀h',h'.IsTupleIter it t (i+1)->Heap.SameBut it s.heap h'->Q x { s with heap:=h' }):wpAny (model prog w) A (Builtin.SmallTypes.nextOf (.ref it)) Q E s:=by
 obtain⟨oi,e1,c1,d1⟩:=id hi;obtain⟨ot,e2,c2,n2,d2⟩:=id ht;unfold Builtin.SmallTypes.nextOf;refine wpAny_bind (wpAny_callSpecial?_slot (name:=Str.ofString "__next__") hi.typeIs F.slot_tuple_iterator_next (wpAny_call_entry F.slot_tuple_iterator_next hi.typeIs F.entry_tuple_iterator_next (show wpAny _ _ (field (.ref it) 0 >>= _) _ _ s from wpAny_bind (wpAny_field e1 d1 (x:=.ref t) rfl ?_)) (F.args_tuple_iterator_next_1 _)));show wpAny _ _ (if (Value.ref t == Value.none)=true then _ else _) _ _ s;rw[if_neg (λz:(Value.ref t == Value.none)=true=>Bool.false_ne_true z)];refine(show wpAny _ _ (field (.ref it) 1 >>= _) _ _ s from wpAny_bind (wpAny_field e1 d1 (x:=.int i 0) rfl (show wpAny _ _ (seqItems? (.ref t) >>= _) _ _ s from wpAny_bind (wpAny_seqItems e2 d2 ?_))));simp only[hx,Int.toNat_natCast];refine wpAny_bind (wpAny_setField e1 d1 (by simp) (wpAny_pure ⟨x,rfl,wpAny_pure (q _ ⟨_,Heap.get?_update_self _ e1 (Obj.isFreed_of_fields (Obj.data_mapFields d1 _)),(Obj.cls_mapFields ..).trans c1,?_⟩ (Heap.SameBut.update ..))⟩));rw[Obj.data_mapFields d1];simp[rawInt]
theorem zk8{it t:Addr}{i:Nat}{xs:Array Value}{Q:Value->Shared->Prop}(hh:A.handled=none)(hi:s.heap.IsTupleIter it t i)(ht:s.heap.IsTuple t xs)(hx:xs[i]?=none)
  (q:∀h' e,Heap.ExtBut it s.heap h'->(∃o,h'.get? e=some o/\o.cls=.type "StopIteration")->E (.ref e) { s with heap:=h' }):wpAny (model prog w) A (Builtin.SmallTypes.nextOf (.ref it)) Q E s:=by
 obtain⟨oi,e1,c1,d1⟩:=id hi;obtain⟨ot,e2,c2,n2,d2⟩:=id ht;unfold Builtin.SmallTypes.nextOf;refine wpAny_bind (wpAny_callSpecial?_slot (name:=Str.ofString "__next__") hi.typeIs F.slot_tuple_iterator_next (wpAny_call_entry F.slot_tuple_iterator_next hi.typeIs F.entry_tuple_iterator_next (show wpAny _ _ (field (.ref it) 0 >>= _) _ _ s from wpAny_bind (wpAny_field e1 d1 (x:=.ref t) rfl ?_)) (F.args_tuple_iterator_next_1 _)));show wpAny _ _ (if (Value.ref t == Value.none)=true then _ else _) _ _ s;rw[if_neg (λz:(Value.ref t == Value.none)=true=>Bool.false_ne_true z)];refine(show wpAny _ _ (field (.ref it) 1 >>= _) _ _ s from wpAny_bind (wpAny_field e1 d1 (x:=.int i 0) rfl (show wpAny _ _ (seqItems? (.ref t) >>= _) _ _ s from wpAny_bind (wpAny_seqItems e2 d2 ?_))));simp only[hx,Int.toNat_natCast];refine wpAny_bind (wpAny_rule (wpAny_bind (wpAny_setField e1 d1 (by simp) (show wpAny _ _ (newExc (.type "StopIteration") [] >>= _) _ _ _ from wpAny_bind ?_))));simp only[newTuple,newExc];refine wpAny_bind (wpAny_newObj_type (wpAny_bind (m:=firstArgMember _ _) (wpAny_of_eq (a:=Value.none) (by first|rfl |(simp only[firstArgMember];rfl)) (wpAny_newObj_type ?_ (by size_fits)))) (by size_fits));simp only[raiseNew];refine wpAny_bind (wpAny_handled ?_)
 first |(rw[hh]) |(rw[show A.in1.handled=none from hh])
 exact wpAny_bind (wpAny_pure (wpAny_throw (q _ _ (((Heap.SameBut.update ..).extBut.push _).push _) ⟨_,Heap.get?_push_size _ rfl,rfl⟩)))
end
def zIt(b:Bool)(h:Heap)(it l:Addr)(i:Nat):Prop:=if b=true then h.IsTupleIter it l i else h.IsListIter it l i
def zSq(b:Bool)(h:Heap)(l:Addr)(xs:Array Value):Prop:=if b=true then h.IsTuple l xs else h.IsList l xs
def zOb(b:Bool)(l:Addr):Obj:={ cls:=.type (if b=true then "tuple_iterator" else "list_iterator"),data:=.fields #[.ref l,.int 0 0] }
theorem zIt.at{b:Bool}{h h':Heap}{it l:Addr}{i:Nat}(x:zIt b h it l i)(e:∀o,h.get? it=some o->h'.get? it=some o):zIt b h' it l i:=by
 cases b
 ·exact Heap.IsListIter.at (show h.IsListIter it l i from x) e
 ·exact Heap.IsTupleIter.at (show h.IsTupleIter it l i from x) e
theorem zSq.lt{b:Bool}{h:Heap}{l:Addr}{xs:Array Value}(x:zSq b h l xs):l<h.objs.size:=by
 cases b
 ·obtain⟨o,e,_⟩:=(show h.IsList l xs from x)
  exact Heap.lt_size e
 ·obtain⟨o,e,_⟩:=(show h.IsTuple l xs from x)
  exact Heap.lt_size e
theorem zIt.own{b:Bool}{h:Heap}{it l:Addr}{i:Nat}(x:zIt b h it l i):∃o,h.get? it=some o/\∀v,o.data ≠ .cell v:=by
 cases b
 ·obtain⟨o,e,c,d⟩:=(show h.IsListIter it l i from x)
  exact⟨o,e,λv q=>by rw[d]at q;cases q⟩
 ·obtain⟨o,e,c,d⟩:=(show h.IsTupleIter it l i from x)
  exact⟨o,e,λv q=>by rw[d]at q;cases q⟩
section
variable {prog:Program}{w:World}{A:Around}{E:Value->Shared->Prop}{s:Shared}
theorem zh6{b:Bool}{it l:Addr}{i:Nat}{xs:Array Value}{x:Value}{Q:Value->Shared->Prop}(hi:zIt b s.heap it l i)(hl:zSq b s.heap l xs)(hx:xs[i]?=some x)
  (q:∀h',zIt b h' it l (i+1)->Heap.SameBut it s.heap h'->Q x { s with heap:=h' }):wpAny (model prog w) A (Builtin.SmallTypes.nextOf (.ref it)) Q E s:=by
 cases b
 ·exact wpAny_nextOf_list_item hi hl hx q
 ·exact zh5 hi hl hx q
theorem zed{b:Bool}{it l:Addr}{i:Nat}{xs:Array Value}{Q:Value->Shared->Prop}(hh:A.handled=none)(hi:zIt b s.heap it l i)(hl:zSq b s.heap l xs)(hx:xs[i]?=none)
  (q:∀h' e,Heap.ExtBut it s.heap h'->(∃o,h'.get? e=some o/\o.cls=.type "StopIteration")->E (.ref e) { s with heap:=h' }):wpAny (model prog w) A (Builtin.SmallTypes.nextOf (.ref it)) Q E s:=by
 cases b
 ·exact wpAny_nextOf_list_end hh hi hl hx q
 ·exact zk8 hh hi hl hx q
theorem zm4{b:Bool}{l:Addr}{xs:Array Value}(hl:zSq b s.heap l xs){Q:Value->Shared->Prop}(q:Q (.ref s.heap.objs.size) { s with heap:=s.heap.push (zOb b l) }):wpAny (model prog w) A (pyIter (.ref l)) Q E s:=by
 cases b
 ·exact wpAny_pyIter_list hl q
 ·exact wpAny_pyIter_tuple hl q
end
def SqG(b:Bool)(K:PySem.W.Frag)(H:Hp)(a:Addr)(xs:List V):Prop:=if b=true then SqT K H a xs else SqL K H a xs
theorem Inv.sqG{X:Cx}{pins:List (Addr×Obj)}{σ:St}{H:Hp}{s:Shared}{b:Bool}{a:Addr}{xs:List V}(I:Inv X pins σ H s)(h:SqG b X.K H a xs):∃its:List Value,Vals xs its/\zSq b s.heap a its.toArray/\xs.length<=sizeLine:=by
 cases b
 ·obtain⟨its,r,p,z⟩:=I.list (show SqL X.K H a xs from h);exact⟨its,r,p.isList,z⟩
 ·obtain⟨its,r,p,z⟩:=I.tuple (show SqT X.K H a xs from h);exact⟨its,r,p,z⟩
theorem Inv.sqG_inj{X:Cx}{pins:List (Addr×Obj)}{σ:St}{H:Hp}{s:Shared}{b:Bool}{a:Addr}{xs ys:List V}(I:Inv X pins σ H s)(h:SqG b X.K H a xs)(h':SqG b X.K H a ys):xs=ys:=by
 cases b
 ·exact I.list_inj (show SqL X.K H a xs from h) h'
 ·exact I.tuple_inj (show SqT X.K H a xs from h) h'
section
variable {X:Cx}
theorem zk9{prog:Program}{w:World}{A:Around}{E:Value->Shared->Prop}{s:Shared}{t sl:Addr}{its:Array Value}{vl vu:Value}{lo hi:Option Int}{Q:Value->Shared->Prop}(ht:IsTup s.heap t its)(hs:s.heap.IsSliceOf sl vl vu .none)(pl:IsPart vl lo)(pu:IsPart vu hi)
  (h0:HT.sIx its.size 0 lo=0) (h1:HT.sIx its.size its.size hi=its.size) (h:Q (.ref t) s):wpAny (model prog w) A (getItem (.ref t) (.ref sl)) Q E s:=by
 obtain⟨os,hos,hcs,hds⟩:=id hs;have hTs:s.TypeIs (.ref sl) "slice" :=⟨os,hos,hcs⟩
 unfold getItem
 try with_reducible refine wpAny_holding ?_
 first |(refine wpAny_bind (wpAny_pure ?_))|skip
 refine wpAny_bind (wpAny_sequenceKey ht.typeIs (by decide) (wpAny_bind (wpAny_callSpecial?_slot (name:=Str.ofString "__getitem__") ht.typeIs PyProof.Rows.slot_tuple_getitem (wpAny_call_entry PyProof.Rows.slot_tuple_getitem ht.typeIs entry_tuple_getitem ?_ (args_tuple_getitem _ _)))));refine(show wpAny _ _ (Builtin.Tuple.tupleItemsOf (.ref t) >>= _) _ _ s from wpAny_bind (tupleItemsOf_ ht (wpAny_bind (wpAny_typeOf hTs ?_))));rw[if_pos (by decide)];refine wpAny_bind (HT.sliceApplied_gen hs pl pu ?_);rw[h0,h1];have hy:(((((0:Nat):Int) == 0 && (1:Int) == 1) && (its.size-0 == its.size))=true):=by simp
 show wpAny _ _ (if (((0:Nat):Int) == 0 && (1:Int) == 1 && (its.size-0) == its.size)=true then _ else _) _ _ s;rw[if_pos hy];refine wpAny_bind (m:=Builtin.Tuple.tupleIsExact _) ?_;unfold Builtin.Tuple.tupleIsExact;refine wpAny_bind (wpAny_typeOf ht.typeIs (wpAny_pure ?_));rw[if_pos (by decide)]
 first
  |exact wpAny_bind (wpAny_rule (wpAny_pure ⟨_,rfl,wpAny_pure h⟩))
  |exact wpAny_bind (wpAny_rule (wpAny_bind (wpAny_pure (wpAny_pure ⟨_,rfl,wpAny_pure h⟩))))
  |exact wpAny_bind (wpAny_rule (wpAny_bind (wpAny_pure ⟨_,rfl,wpAny_pure h⟩)))
theorem zgi{α β:Type}{f g:α->Option β}:∀{l:List α},(∀x∈l,f x=g x)->l.filterMap f=l.filterMap g
 |[],_=>rfl
 |a::l,h=>by
  rw[List.filterMap_cons,List.filterMap_cons,h a (by simp),zgi (l:=l) λx hx=>h x (List.mem_cons_of_mem _ hx)]
theorem zm5(xs:Array Value):((List.range xs.size).filterMap λ(k:Nat)=>xs[(((xs.size:Int)-1)+(k:Int) *(-1)).toNat]?)=xs.toList.reverse:=by
 have e:((List.range xs.size).filterMap λ(k:Nat)=>xs[(((xs.size:Int)-1)+(k:Int) *(-1)).toNat]?)=((List.range xs.size).map (λk=>xs.size-1-k)).filterMap (xs[·]?):=by
  rw[List.filterMap_map];refine zgi λk hk=>?_;have:=List.mem_range.mp hk;show xs[(((xs.size:Int)-1)+(k:Int) *(-1)).toNat]?=xs[xs.size-1-k]?;rw[show(((xs.size:Int)-1)+(k:Int) *(-1)).toNat=xs.size-1-k by omega]
 rw[e,PySem.W.krv_range,List.filterMap_reverse,PySem.W.krv_all]
theorem zgj{prog:Program}{w:World}{A:Around}{E:Value->Shared->Prop}{s:Shared}{sl:Addr}{t:Tok}{n:Nat}{Q:Int×Int×Nat->Shared->Prop}(hs:s.heap.IsSliceOf sl .none .none (.int (-1) t))(h:Q (((n:Nat):Int)-1,-1,n) s):wpAny (model prog w) A (Builtin.Slice.sliceApplied (.ref sl) (pure (n:Int))) Q E s:=by
 obtain⟨os,hos,hcs,hds⟩:=id hs;unfold Builtin.Slice.sliceApplied Builtin.Slice.sliceFields;refine wpAny_bind (wpAny_bind (wpAny_field hos hds (x:=.none) rfl (wpAny_bind (wpAny_field hos hds (x:=.none) rfl (wpAny_bind (wpAny_field hos hds (x:=.int (-1) t) rfl (wpAny_pure (wpAny_bind (slicePart_int ?_)))))))));show wpAny _ _ (if ((-1:Int) == 0)=true then _ else _) _ _ s;rw[if_neg (by decide)];refine wpAny_bind (slicePart_none (wpAny_bind (slicePart_none (wpAny_bind (wpAny_pure ?_)))));show wpAny _ _ (match Builtin.Slice.sliceAdjust none none (-1) (n:Int) with |(lo,hi)=>pure (lo,(-1:Int),Builtin.Slice.slicePlaces lo hi (-1))) _ _ s;have e:Builtin.Slice.sliceAdjust none none (-1) (n:Int)=((n:Int)-1,-1):=rfl;rw[e];have e2:Builtin.Slice.slicePlaces ((n:Int)-1) (-1) (-1)=n:=by
  unfold Builtin.Slice.slicePlaces;have h1:¬ ((-1:Int) > 0):=by decide
  rw[if_neg h1];show(if (n:Int)-1 > -1 then ((n:Int)-1 - -1-1) / 1+1 else 0).toNat=n;rw[Int.ediv_one]
  split <;> omega
 show wpAny _ _ (pure ((n:Int)-1,(-1:Int),Builtin.Slice.slicePlaces ((n:Int)-1) (-1) (-1))) _ _ s;rw[e2];exact wpAny_pure h
theorem zpw{prog:Program}{w:World}{A:Around}{E:Value->Shared->Prop}{s:Shared}{t sl:Addr}{its:Array Value}{k:Tok}{Q:Value->Shared->Prop}(ht:IsTup s.heap t its)(hs:s.heap.IsSliceOf sl .none .none (.int (-1) k))(hz:its.size<=sizeLine)
  (h:Q (.ref s.heap.objs.size) { s with heap:=s.heap.push { cls:=.type "tuple",data:=.seq its.toList.reverse.toArray } }):wpAny (model prog w) A (getItem (.ref t) (.ref sl)) Q E s:=by
 obtain⟨os,hos,hcs,hds⟩:=id hs;have hTs:s.TypeIs (.ref sl) "slice" :=⟨os,hos,hcs⟩
 have hok:sizeOk (.seq its.toList.reverse.toArray):=by
  show its.toList.reverse.toArray.size<=sizeLine;simpa using hz
 unfold getItem
 try with_reducible refine wpAny_holding ?_
 first |(refine wpAny_bind (wpAny_pure ?_))|skip
 refine wpAny_bind (wpAny_sequenceKey ht.typeIs (by decide) (wpAny_bind (wpAny_callSpecial?_slot (name:=Str.ofString "__getitem__") ht.typeIs PyProof.Rows.slot_tuple_getitem (wpAny_call_entry PyProof.Rows.slot_tuple_getitem ht.typeIs entry_tuple_getitem ?_ (args_tuple_getitem _ _)))));refine(show wpAny _ _ (Builtin.Tuple.tupleItemsOf (.ref t) >>= _) _ _ s from wpAny_bind (tupleItemsOf_ ht (wpAny_bind (wpAny_typeOf hTs ?_))));rw[if_pos (by decide)];refine wpAny_bind (zgj hs ?_);have hno:¬ ((((its.size:Int)-1 == 0 && (-1:Int) == 1) && (its.size == its.size))=true):=by
  rw[show((-1:Int) == 1)=false from rfl,Bool.and_false,Bool.false_and];exact Bool.false_ne_true
 show wpAny _ _ (if ((its.size:Int)-1 == 0 && (-1:Int) == 1 && its.size == its.size)=true then _ else _) _ _ s;rw[if_neg hno,zm5]
 first
  |exact wpAny_bind (m:=Builtin.Tuple.tupleExact _) (wpAny_newObj_type (wpAny_pure ⟨_,rfl,wpAny_pure h⟩) hok)
  |exact wpAny_bind (m:=Builtin.Tuple.tupleExact _) (wpAny_newObj_type (wpAny_bind (wpAny_pure (wpAny_pure ⟨_,rfl,wpAny_pure h⟩))) hok)
  |exact wpAny_bind (wpAny_bind (m:=Builtin.Tuple.tupleExact _) (wpAny_newObj_type (wpAny_pure (wpAny_pure ⟨_,rfl,wpAny_pure h⟩)) hok))
  |exact wpAny_bind (wpAny_bind (m:=Builtin.Tuple.tupleExact _) (wpAny_newObj_type (wpAny_pure ⟨_,rfl,wpAny_pure h⟩) hok))
def zu6:TE:=λ_ H Q=>∀p,H p=none->Q (.ref p) (upd H p (.dK []))
theorem zpx{pos:Pos}:PE X (.Dict [] [] pos) zu6:=λpins s σ H Q I h=>by
 have big:sysModules<s.heap.objs.size:=Nat.lt_trans (by decide) (show mainGlobals<s.heap.objs.size from(I.mod.glob.keeps I.bk).lt);refine wpAny_Dict_empty ⟨.ref s.heap.objs.size,_,I.laid (a:=s.heap.objs.size) (o:=.dK []) (t':=s.toks) (λ_ _ q=>Heap.get?_push_of_some _ q) (Nat.le_refl _) ⟨Nat.zero_le _,beq_eq_false_iff_ne.mpr (Ne.symm (Nat.ne_of_lt big)),[],.nil,Heap.DictOf.new s.heap⟩,rfl,h _ (I.hok.fresh (Nat.le_refl _))⟩
end
def inB(lo hi:Int):V->Bool
 |.int i=>decide (lo<=i) && decide (i<=hi)
 |_=>false
def zu7:List (Int×Int)->List V->Bool
 |[],[]=>true
 |b::bs,x::xs=>inB b.1 b.2 x && zu7 bs xs
 |_,_=>false
def whB(bs:List (Int×Int)):Option (List V)->Bool
 |some xs=>zu7 bs xs
 |none=>false
theorem Same.seqT{K:PySem.W.Frag}{H H':Hp}{a:Addr}{xs:List V}(e:Same H H')(h:SqT K H a xs):SqT K H' a xs:=by
 rcases h with(h |⟨o,h⟩)|h
 ·exact .inl (.inl (e _ _ h))
 ·exact .inl (.inr ⟨o,e _ _ h⟩)
 ·exact .inr h
theorem zh7{α:Type}{xs:List α}{k:Int}(h0:0<=k)(h1:k<xs.length):∃v,atI xs k=some v/\v∈xs:=by
 obtain⟨v,h,e⟩:=zm3 h0 h1;exact⟨v,h,List.mem_of_getElem? e⟩
def zu8(i j k:Nat)(ta:TA):TS:=λD σ H=>ta σ H λvs H1=>∃u v w,vs = [u,v,w]/\D.nx (((σ.set i (some u)).set j (some v)).set k (some w)) H1
theorem zpy{X:Cx}{i j k:Nat}{x y z:Str}{a b c:Expr}{ta:TA}{px py pz pt pos:Pos}{kt k2 pt2}(hc:X.calm=true)(hN:X.N.Nodup)(hi:X.N[i]?=some x)(hj:X.N[j]?=some y)(hk:X.N[k]?=some z)(hij:i≠j)(hik:i≠k)(hjk:j≠k)
  (hx:X.env.scope.names.lookup x=some .local) (hy:X.env.scope.names.lookup y=some .local) (hz:X.env.scope.names.lookup z=some .local) (ha:PA X [a,b,c] ta)
  (hw:swappedStores [.Tuple [.Name x px,.Name y py,.Name z pz] kt pt] (.Tuple [a,b,c] k2 pt2) X.env=pure (some [x,y,z]))
  (hs:swapsWithSole [.Tuple [.Name x px,.Name y py,.Name z pz] kt pt] (.Tuple [a,b,c] k2 pt2) pos.line X.env=pure false:=by rfl) :
  PS X (.Assign [.Tuple [.Name x px,.Name y py,.Name z pz] kt pt] (.Tuple [a,b,c] k2 pt2) pos) (zu8 i j k ta):=by
 intro pins s σ H D I h;rw[exec_Assign_arm];refine wpAny_bind (wpAny_standAt ?_);rw[hs];refine wpAny_bind (wpAny_pure ?_);rw[if_neg (by decide)];refine wpAny_bind (Tuple_ (thn (ha _ pins s σ H _ I h) λus s1 zr86=>?_));obtain⟨vs,H1,I1,r1,q1⟩:=zr86;obtain⟨v1,v2,v3,e1,q1⟩:=q1;subst e1;obtain⟨u1,u2,u3,rfl,r1,r2,r3⟩:∃u1 u2 u3,us = [u1,u2,u3]/\RelV v1 u1/\RelV v2 u2/\RelV v3 u3:=by
  cases r1 with
  |cons p q=>
   cases q with
   |cons p' q'=>
    cases q' with
    |cons p'' q''=>
     cases q'';exact⟨_,_,_,rfl,p,p',p''⟩
 refine wpAny_newObj_type ?_ (by show 3<=sizeLine;decide);have I2:Inv X pins σ H1 { s1 with heap:=s1.heap.push { cls:=.type "tuple",data:=.seq [u1,u2,u3].toArray } }:=I1.kept (t':=s1.toks) λb o e=>Heap.get?_push_of_some _ e;rw[hw];refine wpAny_bind (wpAny_pure ?_);show wpAny (model X.prog X.w) X.A (do rule "assign.swapped-stores";let items <-unpackItems (.ref s1.heap.objs.size) 3 none;assignInOrder [λv=>bindName X.env z v,λv=>bindName X.env y v,λv=>bindName X.env x v] items.reverse;pure Flow.next) _ _ _;refine wpAny_bind (wpAny_rule (wpAny_bind (unpackItems_tuple (items:=#[u1,u2,u3]) (I.ok.hd hc) (IsTup.new s1.heap _) λh' hx'=>?_)));have I3:=I2.kept (h':=h') (t':=s1.toks) λb o e=>hx' b o (Nat.ne_of_lt (Heap.lt_size e)) e;show wpAny _ _ (assignInOrder [λv=>bindName X.env z v,λv=>bindName X.env y v,λv=>bindName X.env x v] [u3,u2,u1] >>= λ_=>pure Flow.next) _ _ _;refine wpAny_bind (assignInOrder_cons (wpAny_bindName (vz I3 hN hk (.inl hz) r3 (λs2 I4=>?_) (.inr hz))));refine assignInOrder_cons (wpAny_bindName (vz I4 hN hj (.inl hy) r2 (λs3 I5=>?_) (.inr hy)));refine assignInOrder_cons (wpAny_bindName (vz I5 hN hi (.inl hx) r1 (λs4 I6=>assignInOrder_nil (wpAny_pure ?_)) (.inr hx)));have e:(((σ.set k (some v3)).set j (some v2)).set i (some v1))=(((σ.set i (some v1)).set j (some v2)).set k (some v3)):=by
  rw[List.set_comm _ _ (Ne.symm hjk),List.set_comm _ _ (Ne.symm hik),List.set_comm _ _ (Ne.symm hij)]
 rw[e]at I6;exact⟨_,H1,I6,q1⟩
end L2
namespace L2
theorem log_small{i:Int}(h0 : -1000000<=i)(h1:i<=1000000):i.natAbs.log2<1920:=by
 by_cases hz:i.natAbs=0
 ·rw[hz];decide
 ·exact Nat.lt_of_lt_of_le ((Nat.log2_lt hz).mpr (show i.natAbs<2 ^ 30 by omega)) (by decide)
end L2
namespace L2
open PySem
theorem zh8{es:List Expr}{x1}{pos:Pos}{rest:List Expr}{env:Env}:starEach (.Tuple es x1 pos::rest) env=(false,eval (.Tuple es x1 pos) env)::starEach rest env:=by rw[starEach];intro e p h;cases h
theorem zsz{es:List Expr}{pos:Pos}{rest:List Expr}{env:Env}:starEach (.List es pos::rest) env=(false,eval (.List es pos) env)::starEach rest env:=by rw[starEach];intro e p h;cases h
theorem xc{c j}{pos:Pos}{rest:List Expr}{env:Env}:starEach (.Constant c j pos::rest) env=(false,eval (.Constant c j pos) env)::starEach rest env:=by rw[starEach];intro e p h;cases h
end L2
namespace L2
open PySem
theorem zu9{X:Cx}{e:Expr}{t:TT}(h:PW X e t):PT X e t:=h.pt
end L2
namespace L2
open PySem PySem.Spec PyProof.Rows
abbrev D:=PyData
def kD:Key->D
 |.inl i=>.int i
 |.inr x=>.str x
def zbg(a:Addr):HO:=.ext λh=>∃(x y z:Int) (tx ty tz:Tok) (n:Nat),h.get? a=some { cls:=.type "list",data:=.seq #[.int x tx,.int y ty,.int z tz] n }
def HO.per:HO->Bool
 |.tup _=>true
 |.frz _ _=>true
 |.ext _=>true
 |_=>false
def Pers(H H':Hp):Prop:=∀a o,H a=some o->o.per=true->H' a=some o
theorem Pers.refl(H:Hp):Pers H H:=λ_ _ h _=>h
theorem Pers.trans{H H1 H2:Hp}(a:Pers H H1)(b:Pers H1 H2):Pers H H2:=λc o h p=>b c o (a c o h p) p
theorem Same.pers{H H':Hp}(s:Same H H'):Pers H H':=λa o h _=>s a o h
theorem Pers.sqT{K:PySem.W.Frag}{H H':Hp}{a:Addr}{xs:List V}(p:Pers H H')(h:SqT K H a xs):SqT K H' a xs:=by
 rcases h with(h |⟨o,h⟩)|h
 ·exact .inl (.inl (p _ _ h rfl))
 ·exact .inl (.inr ⟨o,p _ _ h rfl⟩)
 ·exact .inr h
section
variable (K:PySem.W.Frag)
mutual
inductive Rep(H:Hp):D->V->Prop
 |non:Rep H .none .non
 |bl {b:Bool}:Rep H (.bool b) (.bl b)
 |int {i:Int}:Rep H (.int i) (.int i)
 |str {x:Str}:Rep H (.str x) (.str x)
 |tup {xs:List D}{a:Addr}{vs:List V} (h:SqT K H a vs) (r:Reps H xs vs):Rep H (.tuple xs) (.ref a)
 |lst {xs:List D}{a:Addr}{vs:List V}{o:Obj} (h:H a=some (.frz o (.lst vs))) (r:Reps H xs vs):Rep H (.list xs) (.ref a)
 |dic {kvs:List (D×D)}{a:Addr}{kws:List (Key×V)}{o:Obj} (h:H a=some (.frz o (.dK kws))) (r:RepK H kvs kws):Rep H (.dict kvs) (.ref a)
inductive Reps(H:Hp):List D->List V->Prop
 |nil:Reps H [] []
 |cons {d:D}{v:V}{ds:List D}{vs:List V} (r:Rep H d v) (t:Reps H ds vs):Reps H (d::ds) (v::vs)
inductive RepK(H:Hp):List (D×D)->List (Key×V)->Prop
 |nil:RepK H [] []
 |cons {k:Key}{d:D}{v:V}{ds:List (D×D)}{vs:List (Key×V)} (r:Rep H d v) (t:RepK H ds vs):RepK H ((kD k,d)::ds) ((k,v)::vs)
end
end
section
variable {K:PySem.W.Frag}{H H':Hp}
theorem Rep.mono(p:Pers H H'){d:D}{v:V}(h:Rep K H d v):Rep K H' d v :=
 Rep.rec (motive_1:=λd v _=>Rep K H' d v) (motive_2:=λds vs _=>Reps K H' ds vs) (motive_3:=λds vs _=>RepK K H' ds vs) .non .bl .int .str (λh _ i=>.tup (p.sqT h) i) (λh _ i=>.lst (p _ _ h rfl) i) (λh _ i=>.dic (p _ _ h rfl) i) .nil (λ_ _ i j=>.cons i j) .nil (λ_ _ i j=>.cons i j) h
theorem Reps.ind{P:List D->List V->Prop}(n:P [] [])(c:∀d v ds vs,Rep K H d v->Reps K H ds vs->P ds vs->P (d::ds) (v::vs)){ds:List D}{vs:List V}(h:Reps K H ds vs):P ds vs :=
 Reps.rec (motive_1:=λ_ _ _=>True) (motive_2:=λds vs _=>P ds vs) (motive_3:=λ_ _ _=>True) trivial trivial trivial trivial (λ_ _ _=>trivial) (λ_ _ _=>trivial) (λ_ _ _=>trivial) n (λr t _ j=>c _ _ _ _ r t j) trivial (λ_ _ _ _=>trivial) h
theorem Reps.mono(p:Pers H H'){ds:List D}{vs:List V}(h:Reps K H ds vs):Reps K H' ds vs:=h.ind .nil λ_ _ _ _ r _ j=>.cons (r.mono p) j
theorem Reps.length{ds:List D}{vs:List V}(h:Reps K H ds vs):ds.length=vs.length:=h.ind (P:=λds vs=>ds.length=vs.length) rfl λ_ _ _ _ _ _ j=>congrArg (·+1) j
theorem Reps.append{ds es:List D}{vs ws:List V}(h:Reps K H ds vs)(s:Reps K H es ws):Reps K H (ds++es) (vs++ws):=h.ind (P:=λds vs=>Reps K H (ds++es) (vs++ws)) s λ_ _ _ _ r _ j=>.cons r j
theorem Reps.get{ds:List D}{vs:List V}{i:Nat}{d:D}(h:Reps K H ds vs):ds[i]?=some d->∃v,vs[i]?=some v/\Rep K H d v :=
 h.ind (P:=λds vs=>∀i:Nat,ds[i]?=some d->∃v,vs[i]?=some v/\Rep K H d v) (λ_ e=>nomatch e) (λd' v ds vs r _ j i e=>by
  cases i with
  |zero=>cases e;exact⟨v,rfl,r⟩
  |succ i=>exact j i e) i
theorem Reps.get'{ds:List D}{vs:List V}{i:Nat}{v:V}(h:Reps K H ds vs):vs[i]?=some v->∃d,ds[i]?=some d/\Rep K H d v :=
 h.ind (P:=λds vs=>∀i:Nat,vs[i]?=some v->∃d,ds[i]?=some d/\Rep K H d v) (λ_ e=>nomatch e) (λd v' ds vs r _ j i e=>by
  cases i with
  |zero=>cases e;exact⟨d,rfl,r⟩
  |succ i=>exact j i e) i
theorem Reps.take{ds:List D}{vs:List V}(n:Nat)(h:Reps K H ds vs):Reps K H (ds.take n) (vs.take n) :=
 h.ind (P:=λds vs=>∀n:Nat,Reps K H (ds.take n) (vs.take n)) (λn=>by rw[List.take_nil,List.take_nil];exact .nil) (λ_ _ _ _ r _ j n=>by
  cases n with
  |zero=>exact .nil
  |succ n=>exact .cons r (j n)) n
theorem Reps.drop{ds:List D}{vs:List V}(n:Nat)(h:Reps K H ds vs):Reps K H (ds.drop n) (vs.drop n) :=
 h.ind (P:=λds vs=>∀n:Nat,Reps K H (ds.drop n) (vs.drop n)) (λn=>by rw[List.drop_nil,List.drop_nil];exact .nil) (λ_ _ _ _ r t j n=>by
  cases n with
  |zero=>exact .cons r t
  |succ n=>exact j n) n
theorem Reps.reverse{ds:List D}{vs:List V}(h:Reps K H ds vs):Reps K H ds.reverse vs.reverse:=by
 induction ds generalizing vs with
 |nil=>cases h;exact .nil
 |cons d ds ih=>
  cases h with
  |cons r t=>rw[List.reverse_cons,List.reverse_cons];exact(ih t).append (.cons r .nil)
theorem Reps.rep{ds:List D}{vs:List V}(h:Reps K H ds vs):∀k:Nat,Reps K H (List.replicate k ds).flatten (List.replicate k vs).flatten
 |0=>.nil
 |k+1=>by
  rw[List.replicate_succ,List.replicate_succ,List.flatten_cons,List.flatten_cons];exact h.append (h.rep k)
theorem Reps.eraseIdx{ds:List D}{vs:List V}(i:Nat)(h:Reps K H ds vs):Reps K H (ds.eraseIdx i) (vs.eraseIdx i) :=
 h.ind (P:=λds vs=>∀i:Nat,Reps K H (ds.eraseIdx i) (vs.eraseIdx i)) (λ_=>.nil) (λ_ _ _ _ q t j i=>by
  cases i with
  |zero=>exact t
  |succ i=>exact .cons q (j i)) i
theorem Reps.ints:∀{ns:List Int},Reps K H (ns.map PyData.int) (ns.map V.int)
 |[]=>.nil
 |_::_=>.cons .int Reps.ints
theorem Reps.of_ints{ns:List Int}{vs:List V}(h:Reps K H (ns.map PyData.int) vs):vs=ns.map V.int:=by
 induction ns generalizing vs with
 |nil=>cases h;rfl
 |cons n ns ih=>
  cases h with
  |cons r t=>cases r;rw[ih t];rfl
theorem Reps.same(s:Same H H'){ds:List D}{vs:List V}(r:Reps K H ds vs):Reps K H' ds vs:=r.mono s.pers
theorem Rep.same(s:Same H H'){d:D}{v:V}(r:Rep K H d v):Rep K H' d v:=r.mono s.pers
end
section
variable (K:PySem.W.Frag)
mutual
inductive RepN(H:Hp):D->V->Prop
 |non:RepN H .none .non
 |bl {b:Bool}:RepN H (.bool b) (.bl b)
 |int {i:Int}:RepN H (.int i) (.int i)
 |str {x:Str}:RepN H (.str x) (.str x)
 |tup {xs:List D}{a:Addr}{vs:List V} (h:SqT K H a vs) (r:RepNs H xs vs):RepN H (.tuple xs) (.ref a)
 |lst {xs:List D}{a:Addr}{vs:List V} (h:Rd H a (.lst vs)) (r:RepNs H xs vs):RepN H (.list xs) (.ref a)
inductive RepNs(H:Hp):List D->List V->Prop
 |nil:RepNs H [] []
 |cons {d:D}{v:V}{ds:List D}{vs:List V} (r:RepN H d v) (t:RepNs H ds vs):RepNs H (d::ds) (v::vs)
end
end
section
variable {K:PySem.W.Frag}{H H':Hp}
theorem Same.rd(s:Same H H'){a:Addr}{u:HO}(h:Rd H a u):Rd H' a u:=by
 rcases h with h |⟨o,h⟩
 ·exact .inl (s _ _ h)
 ·exact .inr ⟨o,s _ _ h⟩
theorem RepN.gen(ht:∀{a vs},SqT K H a vs->SqT K H' a vs)(hl:∀{a vs},Rd H a (.lst vs)->Rd H' a (.lst vs)){d:D}{v:V}(h:RepN K H d v):RepN K H' d v :=
 RepN.rec (motive_1:=λd v _=>RepN K H' d v) (motive_2:=λds vs _=>RepNs K H' ds vs) .non .bl .int .str (λh _ i=>.tup (ht h) i) (λh _ i=>.lst (hl h) i) .nil (λ_ _ i j=>.cons i j) h
theorem RepNs.ind{P:List D->List V->Prop}(n:P [] [])(c:∀d v ds vs,RepN K H d v->RepNs K H ds vs->P ds vs->P (d::ds) (v::vs)){ds:List D}{vs:List V}(h:RepNs K H ds vs):P ds vs :=
 RepNs.rec (motive_1:=λ_ _ _=>True) (motive_2:=λds vs _=>P ds vs) trivial trivial trivial trivial (λ_ _ _=>trivial) (λ_ _ _=>trivial) n (λr t _ j=>c _ _ _ _ r t j) h
theorem RepNs.gen(ht:∀{a vs},SqT K H a vs->SqT K H' a vs)(hl:∀{a vs},Rd H a (.lst vs)->Rd H' a (.lst vs)){ds:List D}{vs:List V}(h:RepNs K H ds vs):RepNs K H' ds vs:=h.ind .nil λ_ _ _ _ r _ j=>.cons (r.gen ht hl) j
theorem RepN.same(s:Same H H'){d:D}{v:V}(h:RepN K H d v):RepN K H' d v:=h.gen (λh=>s.pers.sqT h) (λh=>s.rd h)
theorem RepNs.same(s:Same H H'){ds:List D}{vs:List V}(h:RepNs K H ds vs):RepNs K H' ds vs:=h.gen (λh=>s.pers.sqT h) (λh=>s.rd h)
theorem Rep.now{d:D}{v:V}(h:Rep K H d v):(∀kvs,d ≠ .dict kvs)->d.canLay0=true->RepN K H d v :=
 Rep.rec (motive_1:=λd v _=>(∀kvs,d ≠ .dict kvs)->d.canLay0=true->RepN K H d v) (motive_2:=λds vs _=>PyData.canLayAll0 ds=true->RepNs K H ds vs) (motive_3:=λ_ _ _=>True)
  (λ_ _=>.non) (λ_ _=>.bl) (λ_ _=>.int) (λ_ _=>.str) (λh _ i _ c=>.tup h (i (by simpa[PyData.canLay0]using c))) (λh _ i _ c=>.lst (.inr ⟨_,h⟩) (i (by simpa[PyData.canLay0]using c))) (λ_ _ _ n _=>absurd rfl (n _))
  (λ_=>.nil) (λ_ _ i j c=>by
   simp only[PyData.canLayAll0,Bool.and_eq_true]at c;exact .cons (i (λkvs e=>by subst e;simp[PyData.canLay0]at c) c.1) (j c.2)) trivial (λ_ _ _ _=>trivial) h
theorem Reps.now{ds:List D}{vs:List V}(h:Reps K H ds vs):PyData.canLayAll0 ds=true->RepNs K H ds vs :=
 h.ind (P:=λds vs=>PyData.canLayAll0 ds=true->RepNs K H ds vs) (λ_=>.nil) λ_ _ _ _ r _ j c=>by
  simp only[PyData.canLayAll0,Bool.and_eq_true]at c;exact .cons (r.now (λkvs e=>by subst e;simp[PyData.canLay0]at c) c.1) (j c.2)
theorem RepN.frz{a:Addr}{vs:List V}{o:Obj}(e:H a=some (.lst vs)){d:D}{v:V}(h:RepN K H d v):RepN K (upd H a (.frz o (.lst vs))) d v:=by
 have ne:∀{b:Addr}{u:HO},H b=some u->u ≠ .lst vs->b≠a:=λ{b u} h n z=>by rw[z,e]at h;cases h;exact n rfl
 refine h.gen (λ{b ws} h=>?_) (λ{b ws} h=>?_)
 ·rcases h with(h |⟨o,h⟩)|h
  ·exact .inl (.inl (by rw[zn (ne h (by intro z;cases z))];exact h))
  ·exact .inl (.inr ⟨o,by rw[zn (ne h (by intro z;cases z))];exact h⟩)
  ·exact .inr h
 ·rcases h with h |⟨o',h⟩
  ·by_cases z:b=a
   ·subst z;rw[e]at h
    cases h;exact .inr ⟨_,zj⟩
   ·exact .inl (by rw[zn z];exact h)
  ·exact .inr ⟨o',by rw[zn (ne h (by intro z;cases z))];exact h⟩
end
inductive Mx where
 |v (d:D)|l (xs:List D)
inductive O where
 |lst (xs:List D)
 |dct (kvs:List (Key×D))
 |nst (xss:List (List D)) (ds:List D)
 |anc (a:Addr) (o:O)
 |ins (c:Str) (fs:List (Str×D))
 |mix (ms:List Mx)
 |tk (ks:List Key)
 |dcT (kvs:List (List Key×D))
inductive W where
 |val (d:D)|vw (xs:List D)|vd (xs:List (Key×D))|exc (x:Str×List (Str×Int))|scr (ns:List Int)|pen|tmp (d:D)|own (o:O)
abbrev DSt:=List (Option W)
def zs0:Option W->Option W
 |some (.tmp _)=>none
 |w=>w
def clr(σ:DSt):DSt:=σ.map zs0
section
variable (K:PySem.W.Frag)
def RepL(H:Hp)(xs:List D)(v:V):Prop:=∃a vs,v=.ref a/\Rd H a (.lst vs)/\Reps K H xs vs
def RepT(H:Hp)(d:D)(v:V):Prop:=Rep K H d v\/∃xs,d=.list xs/\RepL K H xs v
def zjo{κ:Type}(K:PySem.W.Frag)(H:Hp)(ks:List (κ×D))(vs:List (κ×V)):Prop:=ks.map (·.1)=vs.map (·.1)/\Reps K H (ks.map (·.2)) (vs.map (·.2))
def Nst(H:Hp):List (List D)->List Addr->Prop
 |[],[]=>True
 |xs::xss,b::bs=>(∃vs,H b=some (.lst vs)/\Reps K H xs vs)/\Nst H xss bs
 |_,_=>False
def MxR(H:Hp):List Mx->List V->List Addr->Prop
 |[],[],[]=>True
 |.v d::ms,u::us,bs=>Rep K H d u/\MxR H ms us bs
 |.l xs::ms,u::us,b::bs=>u=.ref b/\(∃vs,H b=some (.lst vs)/\Reps K H xs vs)/\MxR H ms us bs
 |_,_,_=>False
def RepO(H:Hp):O->V->List Addr->Prop
 |.mix ms,v,fp=>∃a us bs,v=.ref a/\fp=a::bs/\H a=some (.lst us)/\MxR K H ms us bs
 |.lst xs,v,fp=>∃a vs,v=.ref a/\fp = [a]/\H a=some (.lst vs)/\Reps K H xs vs
 |.dct ks,v,fp=>∃a vs,v=.ref a/\fp = [a]/\H a=some (.dK vs)/\zjo K H ks vs
 |.nst xss ds,v,fp=>∃a as us,v=.ref a/\fp=a::as/\H a=some (.lst (as.map V.ref++us))/\Nst K H xss as/\Reps K H ds us
 |.tk ks,v,fp=>∃a,v=.ref a/\fp = []/\H a=some (.tup (ks.map kV))
 |.dcT ks,v,fp=>∃a vs,v=.ref a/\fp = [a]/\H a=some (.dT vs)/\zjo K H ks vs
 |.anc a o,v,fp=>v=.ref a/\RepO H o v fp
 |.ins c fs,v,fp=>∃a dx C fv,v=.ref a/\fp = [a,dx]/\PySem.W.nsIn K mainGlobals c=some (some (.ref C))/\H a=some (.ins C dx fv)/\H dx=some (.own a)/\fv.map (·.1)=fs.map (·.1)/\Reps K H (fs.map (·.2)) (fv.map (·.2))
def RepD(H:Hp)(xs:List (Key×D))(v:V):Prop:=∃a vs,v=.ref a/\H a=some (.dK vs)/\zjo K H xs vs
def zbh(C:Addr)(od:Option Addr)(a:Addr):HO:=.ext λh=>∃oe,h.get? a=some oe/\oe.cls=.ref C/\oe.dict=od/\∃vs,oe.data=.fields vs
def RepX(H:Hp)(x:Str×List (Str×Int))(v:V):Prop:=∃a C od,v=.ref a/\PySem.W.nsIn K mainGlobals x.1=some (some (.ref C))/\H a=some (zbh C od a)/\((x.2 = []/\od=none)\/∃d,od=some d/\H d=some (.xd (x.2.map λp=>(p.1,V.int p.2))))
inductive Slots(H₀ H:Hp):DSt->St->List Addr->Prop
 |nil:Slots H₀ H [] [] []
 |none {v:Option V}{ws:DSt}{vs:St}{fp:List Addr} (t:Slots H₀ H ws vs fp):Slots H₀ H (Option.none::ws) (v::vs) fp
 |val {d:D}{v:V}{ws:DSt}{vs:St}{fp:List Addr} (r:Rep K H d v) (t:Slots H₀ H ws vs fp):Slots H₀ H (some (.val d)::ws) (some v::vs) fp
 |vw {xs:List D}{v:V}{ws:DSt}{vs:St}{fp:List Addr} (r:RepL K H₀ xs v) (t:Slots H₀ H ws vs fp):Slots H₀ H (some (.vw xs)::ws) (some v::vs) fp
 |vd {xs:List (Key×D)}{v:V}{ws:DSt}{vs:St}{fp:List Addr} (r:RepD K H₀ xs v) (t:Slots H₀ H ws vs fp):Slots H₀ H (some (.vd xs)::ws) (some v::vs) fp
 |exc {xs:Str×List (Str×Int)}{v:V}{ws:DSt}{vs:St}{fp:List Addr} (r:RepX K H₀ xs v) (t:Slots H₀ H ws vs fp):Slots H₀ H (some (.exc xs)::ws) (some v::vs) fp
 |scr {ns:List Int}{a:Addr}{ws:DSt}{vs:St}{fp:List Addr} (r:SqL K H₀ a (ns.map V.int)) (t:Slots H₀ H ws vs fp):Slots H₀ H (some (.scr ns)::ws) (some (.ref a)::vs) fp
 |pen {a:Addr}{ws:DSt}{vs:St}{fp:List Addr} (r:H a=some (zbg a)) (t:Slots H₀ H ws vs fp):Slots H₀ H (some .pen::ws) (some (.ref a)::vs) fp
 |tmp {d:D}{v:V}{ws:DSt}{vs:St}{fp:List Addr} (r:RepN K H d v) (t:Slots H₀ H ws vs fp):Slots H₀ H (some (.tmp d)::ws) (some v::vs) fp
 |own {o:O}{v:V}{f:List Addr}{ws:DSt}{vs:St}{fp:List Addr} (r:RepO K H o v f) (t:Slots H₀ H ws vs fp):Slots H₀ H (some (.own o)::ws) (some v::vs) (f++fp)
structure DOk(H₀ H:Hp)(σD:DSt)(σ:St):Prop where
 same:Same H₀ H
 slots:∃fp,Slots K H₀ H σD σ fp/\fp.Nodup/\∀a∈fp,H₀ a=none
end
section
variable {K:PySem.W.Frag}{H₀ H H':Hp}{σD:DSt}{σ:St}
theorem RepX.same(s:Same H H'){xs:Str×List (Str×Int)}{v:V}:RepX K H xs v->RepX K H' xs v:=by
 rintro ⟨a,C,od,rfl,n,h,r⟩;refine⟨a,C,od,rfl,n,s _ _ h,?_⟩;rcases r with r |⟨d,e,r⟩
 ·exact .inl r
 ·exact .inr ⟨d,e,s _ _ r⟩
theorem RepD.same(s:Same H H'){xs:List (Key×D)}{v:V}:RepD K H xs v->RepD K H' xs v:=by
 rintro ⟨a,vs,rfl,h,r⟩;exact⟨a,vs,rfl,s _ _ h,r.1,r.2.same s⟩
theorem RepL.same(s:Same H H'){xs:List D}{v:V}:RepL K H xs v->RepL K H' xs v:=by
 rintro ⟨a,vs,rfl,h,r⟩;refine⟨a,vs,rfl,?_,r.same s⟩;rcases h with h |⟨o,h⟩
 ·exact .inl (s _ _ h)
 ·exact .inr ⟨o,s _ _ h⟩
theorem RepT.same(s:Same H H'){d:D}{v:V}:RepT K H d v->RepT K H' d v
 |.inl h=>.inl (h.same s)
 |.inr ⟨xs,e,h⟩=>.inr ⟨xs,e,h.same s⟩
theorem Rep.top{d:D}{v:V}(h:Rep K H d v):RepT K H d v:=.inl h
theorem RepT.list{xs:List D}{v:V}(h:RepT K H (.list xs) v):RepL K H xs v:=by
 rcases h with h |⟨ys,e,h⟩
 ·cases h with
  |lst h r=>exact⟨_,_,rfl,.inr ⟨_,h⟩,r⟩
 ·cases e;exact h
theorem RepL.sq{xs:List D}{v:V}(h:RepL K H xs v):∃a vs,v=.ref a/\SqL K H a vs/\Reps K H xs vs:=by
 obtain⟨a,vs,rfl,h,r⟩:=h;exact⟨a,vs,rfl,.inl h,r⟩
theorem Nst.len:∀{xss:List (List D)}{as:List Addr},Nst K H xss as->as.length=xss.length
 |[],[],_=>rfl
 |_::_,_::_,h=>by rw[List.length_cons,List.length_cons,Nst.len h.2]
theorem Nst.live:∀{xss:List (List D)}{as:List Addr},Nst K H xss as->∀b∈as,∃vs,H b=some (.lst vs)
 |[],[],_,b,hb=>by cases hb
 |_::_,_::_,h,b,hb=>by
  rcases List.mem_cons.mp hb with rfl|hb
  ·obtain⟨vs,e,_⟩:=h.1;exact⟨vs,e⟩
  ·exact Nst.live h.2 b hb
theorem Nst.keep(p:Pers H H'):∀{xss:List (List D)}{as:List Addr},(∀a∈as,∀u,H a=some u->H' a=some u)->Nst K H xss as->Nst K H' xss as
 |[],[],_,_=>trivial
 |_::_,b::_,k,h=>by
  obtain⟨⟨vs,e,r⟩,t⟩:=h;exact⟨⟨vs,k b List.mem_cons_self _ e,r.mono p⟩,Nst.keep p (λa ha=>k a (List.mem_cons_of_mem _ ha)) t⟩
theorem MxR.ind{P:List Mx->List V->List Addr->Prop}(n:P [] [] [])(hv:∀d ms u us bs,Rep K H d u->MxR K H ms us bs->P ms us bs->P (.v d::ms) (u::us) bs)
  (hl:∀xs ms u us b bs,u=.ref b->(∃vs,H b=some (.lst vs)/\Reps K H xs vs)->MxR K H ms us bs->P ms us bs->P (.l xs::ms) (u::us) (b::bs)) {ms:List Mx}{us:List V}{bs:List Addr} (h:MxR K H ms us bs):P ms us bs:=by
 induction ms generalizing us bs with
 |nil=>
  cases us with
  |nil=>
   cases bs with
   |nil=>exact n
   |cons b bs=>exact h.elim
  |cons u us=>exact h.elim
 |cons m ms ih=>
  cases m with
  |v d=>
   cases us with
   |nil=>exact h.elim
   |cons u us=>exact hv _ _ _ _ _ h.1 h.2 (ih h.2)
  |l xs=>
   cases us with
   |nil=>exact h.elim
   |cons u us=>
    cases bs with
    |nil=>exact h.elim
    |cons b bs=>exact hl _ _ _ _ _ _ h.1 h.2.1 h.2.2 (ih h.2.2)
theorem MxR.live{ms:List Mx}{us:List V}{bs:List Addr}(h:MxR K H ms us bs):∀b∈bs,∃vs,H b=some (.lst vs) :=
 h.ind (P:=λ_ _ bs=>∀b∈bs,∃vs,H b=some (.lst vs)) (λ_ hb=>nomatch hb) (λ_ _ _ _ _ _ _ j=>j) λxs ms u us c bs _ l _ j b hb=>by
  rcases List.mem_cons.mp hb with rfl|hb
  ·obtain⟨vs,e,_⟩:=l;exact⟨vs,e⟩
  ·exact j b hb
theorem MxR.keep(p:Pers H H'){ms:List Mx}{us:List V}{bs:List Addr}(k:∀a∈bs,∀u,H a=some u->H' a=some u)(h:MxR K H ms us bs):MxR K H' ms us bs :=
 h.ind (P:=λms us bs=>(∀a∈bs,∀u,H a=some u->H' a=some u)->MxR K H' ms us bs) (λ_=>trivial) (λ_ _ _ _ _ r _ j k=>⟨r.mono p,j k⟩) (λxs ms u us b bs e l _ j k=>by
  obtain⟨vs,e1,r⟩:=l;exact⟨e,⟨vs,k b List.mem_cons_self _ e1,r.mono p⟩,j λa ha=>k a (List.mem_cons_of_mem _ ha)⟩) k
theorem MxR.fp{H2:Hp}{ms:List Mx}{us:List V}{bs cs:List Addr}(h:MxR K H ms us bs):MxR K H2 ms us cs->bs=cs :=
 h.ind (P:=λms us bs=>∀cs,MxR K H2 ms us cs->bs=cs) (λcs g=>by
  cases cs with
  |nil=>rfl
  |cons=>exact g.elim) (λ_ _ _ _ _ _ _ j cs g=>j cs g.2) (λxs ms u us b bs e _ _ j cs g=>by
  cases cs with
  |nil=>exact g.elim
  |cons c cs=>
   have:=e.symm.trans g.1
   cases this;rw[j cs g.2.2]) cs
theorem RepO.live{o:O}{v:V}{f:List Addr}(h:RepO K H o v f):∀a∈f,∃u,H a=some u/\u.per=false:=by
 induction o with
 |anc a o ih=>exact ih h.2
 |tk ks=>
  obtain⟨a,rfl,rfl,e⟩:=h;intro b hb
  cases hb
 |dcT ks=>
  obtain⟨a,vs,rfl,rfl,e,r⟩:=h;intro b hb;rw[List.mem_singleton.mp hb];exact⟨_,e,rfl⟩
 |mix ms=>
  obtain⟨a,us,bs,rfl,rfl,e,m⟩:=h;intro b hb;rcases List.mem_cons.mp hb with rfl|hb
  ·exact⟨_,e,rfl⟩
  ·obtain⟨vs,e2⟩:=m.live b hb;exact⟨_,e2,rfl⟩
 |ins c fs=>
  obtain⟨a,dx,C,fv,rfl,rfl,_,e1,e2,_⟩:=h;intro b hb;simp only[List.mem_cons,List.not_mem_nil,or_false]at hb;rcases hb with rfl|rfl
  ·exact⟨_,e1,rfl⟩
  ·exact⟨_,e2,rfl⟩
 |lst xs=>
  obtain⟨a,vs,rfl,rfl,e,r⟩:=h;intro b hb;rw[List.mem_singleton.mp hb];exact⟨_,e,rfl⟩
 |dct ks=>
  obtain⟨a,vs,rfl,rfl,e,r⟩:=h;intro b hb;rw[List.mem_singleton.mp hb];exact⟨_,e,rfl⟩
 |nst xss ds=>
  obtain⟨a,as,us,rfl,rfl,e,n,r⟩:=h;intro b hb;rcases List.mem_cons.mp hb with rfl|hb
  ·exact⟨_,e,rfl⟩
  ·obtain⟨vs,e2⟩:=n.live b hb;exact⟨_,e2,rfl⟩
theorem RepO.keep{o:O}{v:V}{f:List Addr}(p:Pers H H')(k:∀a∈f,∀u,H a=some u->H' a=some u)(h:RepO K H o v f):RepO K H' o v f:=by
 induction o with
 |anc a o ih=>exact⟨h.1,ih h.2⟩
 |tk ks=>
  obtain⟨a,rfl,rfl,e⟩:=h;exact⟨a,rfl,rfl,p _ _ e rfl⟩
 |dcT ks=>
  obtain⟨a,vs,rfl,rfl,e,r⟩:=h;exact⟨a,vs,rfl,rfl,k a (by simp) _ e,r.1,r.2.mono p⟩
 |mix ms=>
  obtain⟨a,us,bs,rfl,rfl,e,m⟩:=h;exact⟨a,us,bs,rfl,rfl,k a List.mem_cons_self _ e,m.keep p λb hb=>k b (List.mem_cons_of_mem _ hb)⟩
 |ins c fs=>
  obtain⟨a,dx,C,fv,rfl,rfl,n,e1,e2,e3,r⟩:=h;exact⟨a,dx,C,fv,rfl,rfl,n,k a (by simp) _ e1,k dx (by simp) _ e2,e3,r.mono p⟩
 |lst xs=>
  obtain⟨a,vs,rfl,rfl,e,r⟩:=h;exact⟨a,vs,rfl,rfl,k a (by simp) _ e,r.mono p⟩
 |dct ks=>
  obtain⟨a,vs,rfl,rfl,e,r⟩:=h;exact⟨a,vs,rfl,rfl,k a (by simp) _ e,r.1,r.2.mono p⟩
 |nst xss ds=>
  obtain⟨a,as,us,rfl,rfl,e,n,r⟩:=h;exact⟨a,as,us,rfl,rfl,k a List.mem_cons_self _ e,n.keep p λb hb=>k b (List.mem_cons_of_mem _ hb),r.mono p⟩
theorem Slots.live{fp:List Addr}(h:Slots K H₀ H σD σ fp):∀a∈fp,∃u,H a=some u/\u.per=false:=by
 induction h with
 |nil=>intro a ha;cases ha
 |none _ ih=>exact ih
 |val _ _ ih=>exact ih
 |vw _ _ ih=>exact ih
 |vd _ _ ih=>exact ih
 |exc _ _ ih=>exact ih
 |scr _ _ ih=>exact ih
 |pen _ _ ih=>exact ih
 |tmp _ _ ih=>exact ih
 |own r _ ih=>
  intro a ha;rcases List.mem_append.mp ha with z|z
  ·exact r.live a z
  ·exact ih a z
theorem Slots.keep{fp:List Addr}(p:Pers H H')(kn:∀{d:D}{v:V},RepN K H d v->RepN K H' d v)(k:∀a∈fp,∀u,H a=some u->H' a=some u)(h:Slots K H₀ H σD σ fp):Slots K H₀ H' σD σ fp:=by
 induction h with
 |nil=>exact .nil
 |none _ ih=>exact .none (ih k)
 |val r _ ih=>exact .val (r.mono p) (ih k)
 |vw r _ ih=>exact .vw r (ih k)
 |vd r _ ih=>exact .vd r (ih k)
 |exc r _ ih=>exact .exc r (ih k)
 |scr r _ ih=>exact .scr r (ih k)
 |pen r _ ih=>exact .pen (p _ _ r rfl) (ih k)
 |tmp r _ ih=>exact .tmp (kn r) (ih k)
 |own r _ ih=>exact .own (r.keep p λa ha=>k a (List.mem_append_left _ ha)) (ih λa ha=>k a (List.mem_append_right _ ha))
theorem Slots.keepC{fp:List Addr}(p:Pers H H')(k:∀a∈fp,∀u,H a=some u->H' a=some u)(h:Slots K H₀ H σD σ fp):Slots K H₀ H' (clr σD) σ fp:=by
 induction h with
 |nil=>exact .nil
 |none _ ih=>exact .none (ih k)
 |val r _ ih=>exact .val (r.mono p) (ih k)
 |vw r _ ih=>exact .vw r (ih k)
 |vd r _ ih=>exact .vd r (ih k)
 |exc r _ ih=>exact .exc r (ih k)
 |scr r _ ih=>exact .scr r (ih k)
 |pen r _ ih=>exact .pen (p _ _ r rfl) (ih k)
 |tmp r _ ih=>exact .none (ih k)
 |own r _ ih=>exact .own (r.keep p λa ha=>k a (List.mem_append_left _ ha)) (ih λa ha=>k a (List.mem_append_right _ ha))
theorem Slots.length{fp:List Addr}(h:Slots K H₀ H σD σ fp):σD.length=σ.length:=by
 induction h with
 |nil=>rfl
 |none _ ih=>simp[ih]
 |val _ _ ih=>simp[ih]
 |vw _ _ ih=>simp[ih]
 |vd _ _ ih=>simp[ih]
 |exc _ _ ih=>simp[ih]
 |scr _ _ ih=>simp[ih]
 |pen _ _ ih=>simp[ih]
 |tmp _ _ ih=>simp[ih]
 |own _ _ ih=>simp[ih]
theorem DOk.after(s:Same H H')(h:DOk K H₀ H σD σ):DOk K H₀ H' σD σ:=by
 obtain⟨s0,fp,sl,nd,fr⟩:=h;exact⟨s0.trans s,fp,sl.keep s.pers (λh=>h.same s) λa _ u e=>s a u e,nd,fr⟩
theorem DOk.len(h:DOk K H₀ H σD σ):σD.length=σ.length:=let ⟨_,_,sl,_⟩:=h;sl.length
theorem Slots.get{fp:List Addr}(h:Slots K H₀ H σD σ fp):∀{i:Nat}{w:W},σD[i]?=some (some w)->∃v,σ[i]?=some (some v)/\match w with
  |.val d=>Rep K H d v
  |.vw xs=>RepL K H₀ xs v
  |.vd xs=>RepD K H₀ xs v
  |.exc xs=>RepX K H₀ xs v
  |.scr ns=>∃a,v=.ref a/\SqL K H₀ a (ns.map V.int)
  |.pen=>∃a,v=.ref a/\H a=some (zbg a)
  |.tmp d=>RepN K H d v
  |.own o=>∃f,RepO K H o v f/\∀a∈f,a∈fp:=by
 induction h with
 |nil=>intro i w e;simp at e
 |none _ ih=>
  intro i w e
  cases i with
  |zero=>simp at e
  |succ i=>exact ih (by simpa using e)
 |val r _ ih=>
  intro i w e
  cases i with
  |zero=>simp at e;subst e;exact⟨_,rfl,r⟩
  |succ i=>exact ih (by simpa using e)
 |vw r _ ih=>
  intro i w e
  cases i with
  |zero=>simp at e;subst e;exact⟨_,rfl,r⟩
  |succ i=>exact ih (by simpa using e)
 |vd r _ ih=>
  intro i w e
  cases i with
  |zero=>simp at e;subst e;exact⟨_,rfl,r⟩
  |succ i=>exact ih (by simpa using e)
 |exc r _ ih=>
  intro i w e
  cases i with
  |zero=>simp at e;subst e;exact⟨_,rfl,r⟩
  |succ i=>exact ih (by simpa using e)
 |scr r _ ih=>
  intro i w e
  cases i with
  |zero=>simp at e;subst e;exact⟨_,rfl,_,rfl,r⟩
  |succ i=>exact ih (by simpa using e)
 |pen r _ ih=>
  intro i w e
  cases i with
  |zero=>simp at e;subst e;exact⟨_,rfl,_,rfl,r⟩
  |succ i=>exact ih (by simpa using e)
 |tmp r _ ih=>
  intro i w e
  cases i with
  |zero=>simp at e;subst e;exact⟨_,rfl,r⟩
  |succ i=>exact ih (by simpa using e)
 |own r _ ih=>
  intro i w e
  cases i with
  |zero=>simp at e;subst e;exact⟨_,rfl,_,r,λa ha=>List.mem_append_left _ ha⟩
  |succ i=>
   obtain⟨v,e1,e2⟩:=ih (by simpa using e);refine⟨v,e1,?_⟩
   cases w with
   |val d=>exact e2
   |vw xs=>exact e2
   |vd xs=>exact e2
   |exc xs=>exact e2
   |scr ns=>exact e2
   |pen=>exact e2
   |tmp d=>exact e2
   |own o=>obtain⟨f,r,m⟩:=e2;exact⟨f,r,λa ha=>List.mem_append_right _ (m a ha)⟩
theorem DOk.val(h:DOk K H₀ H σD σ){i:Nat}{d:D}(e:σD[i]?=some (some (.val d))):∃v,σ[i]?=some (some v)/\Rep K H d v:=let ⟨_,_,sl,_⟩:=h;sl.get e
theorem DOk.vw(h:DOk K H₀ H σD σ){i:Nat}{xs:List D}(e:σD[i]?=some (some (.vw xs))):∃v,σ[i]?=some (some v)/\RepL K H xs v:=by
 obtain⟨s,_,sl,_⟩:=h;obtain⟨v,e1,e2⟩:=sl.get e;exact⟨v,e1,RepL.same s e2⟩
theorem DOk.vd(h:DOk K H₀ H σD σ){i:Nat}{xs:List (Key×D)}(e:σD[i]?=some (some (.vd xs))):∃v,σ[i]?=some (some v)/\RepD K H xs v:=by
 obtain⟨s,_,sl,_⟩:=h;obtain⟨v,e1,e2⟩:=sl.get e;exact⟨v,e1,RepD.same s e2⟩
theorem DOk.exc(h:DOk K H₀ H σD σ){i:Nat}{xs:Str×List (Str×Int)}(e:σD[i]?=some (some (.exc xs))):∃v,σ[i]?=some (some v)/\RepX K H xs v:=by
 obtain⟨s,_,sl,_⟩:=h;obtain⟨v,e1,e2⟩:=sl.get e;exact⟨v,e1,RepX.same s e2⟩
theorem DOk.scr(h:DOk K H₀ H σD σ){i:Nat}{ns:List Int}(e:σD[i]?=some (some (.scr ns))):∃a,σ[i]?=some (some (.ref a))/\SqL K H a (ns.map V.int):=by
 obtain⟨s,_,sl,_⟩:=h;obtain⟨v,e1,a,rfl,e2⟩:=sl.get e;exact⟨a,e1,s.seq e2⟩
theorem DOk.pen(h:DOk K H₀ H σD σ){i:Nat}(e:σD[i]?=some (some .pen)):∃a,σ[i]?=some (some (.ref a))/\H a=some (zbg a):=by
 obtain⟨s,_,sl,_⟩:=h;obtain⟨v,e1,a,rfl,e2⟩:=sl.get e;exact⟨a,e1,e2⟩
theorem DOk.tmp(h:DOk K H₀ H σD σ){i:Nat}{d:D}(e:σD[i]?=some (some (.tmp d))):∃v,σ[i]?=some (some v)/\RepN K H d v:=let ⟨_,_,sl,_⟩:=h;sl.get e
theorem DOk.ownL(h:DOk K H₀ H σD σ){i:Nat}{xs:List D}(e:σD[i]?=some (some (.own (.lst xs)))):∃a vs,σ[i]?=some (some (.ref a))/\H a=some (.lst vs)/\Reps K H xs vs/\H₀ a=none:=by
 obtain⟨s,fp,sl,nd,fr⟩:=h;obtain⟨v,e1,f,⟨a,vs,rfl,rfl,e2,r⟩,m⟩:=sl.get e;exact⟨a,vs,e1,e2,r,fr a (m a (by simp))⟩
theorem DOk.ownD(h:DOk K H₀ H σD σ){i:Nat}{xs:List (Key×D)}(e:σD[i]?=some (some (.own (.dct xs)))):∃a vs,σ[i]?=some (some (.ref a))/\H a=some (.dK vs)/\zjo K H xs vs/\H₀ a=none:=by
 obtain⟨s,fp,sl,nd,fr⟩:=h;obtain⟨v,e1,f,⟨a,vs,rfl,rfl,e2,r⟩,m⟩:=sl.get e;exact⟨a,vs,e1,e2,r,fr a (m a (by simp))⟩
theorem Slots.set{fp f:List Addr}(h:Slots K H₀ H σD σ fp){w:Option W}{v:Option V}(hw:∀{ws:DSt}{vs:St}{g:List Addr},Slots K H₀ H ws vs g->Slots K H₀ H (w::ws) (v::vs) (f++g)):
  ∀(i:Nat),i<σD.length->∃g g',Slots K H₀ H (σD.set i w) (σ.set i v) (g++(f++g'))/\(g++g').Sublist fp:=by
 induction h with
 |nil=>intro i hi;exact absurd hi (Nat.not_lt_zero _)
 |none t ih=>
  intro i hi
  cases i with
  |zero=>exact⟨[],_,hw t,List.Sublist.refl _⟩
  |succ i=>obtain⟨g,g',e,s⟩:=ih i (Nat.lt_of_succ_lt_succ hi);exact⟨g,g',.none e,s⟩
 |val r t ih=>
  intro i hi
  cases i with
  |zero=>exact⟨[],_,hw t,List.Sublist.refl _⟩
  |succ i=>obtain⟨g,g',e,s⟩:=ih i (Nat.lt_of_succ_lt_succ hi);exact⟨g,g',.val r e,s⟩
 |vw r t ih=>
  intro i hi
  cases i with
  |zero=>exact⟨[],_,hw t,List.Sublist.refl _⟩
  |succ i=>obtain⟨g,g',e,s⟩:=ih i (Nat.lt_of_succ_lt_succ hi);exact⟨g,g',.vw r e,s⟩
 |vd r t ih=>
  intro i hi
  cases i with
  |zero=>exact⟨[],_,hw t,List.Sublist.refl _⟩
  |succ i=>obtain⟨g,g',e,s⟩:=ih i (Nat.lt_of_succ_lt_succ hi);exact⟨g,g',.vd r e,s⟩
 |exc r t ih=>
  intro i hi
  cases i with
  |zero=>exact⟨[],_,hw t,List.Sublist.refl _⟩
  |succ i=>obtain⟨g,g',e,s⟩:=ih i (Nat.lt_of_succ_lt_succ hi);exact⟨g,g',.exc r e,s⟩
 |scr r t ih=>
  intro i hi
  cases i with
  |zero=>exact⟨[],_,hw t,List.Sublist.refl _⟩
  |succ i=>obtain⟨g,g',e,s⟩:=ih i (Nat.lt_of_succ_lt_succ hi);exact⟨g,g',.scr r e,s⟩
 |pen r t ih=>
  intro i hi
  cases i with
  |zero=>exact⟨[],_,hw t,List.Sublist.refl _⟩
  |succ i=>obtain⟨g,g',e,s⟩:=ih i (Nat.lt_of_succ_lt_succ hi);exact⟨g,g',.pen r e,s⟩
 |tmp r t ih=>
  intro i hi
  cases i with
  |zero=>exact⟨[],_,hw t,List.Sublist.refl _⟩
  |succ i=>obtain⟨g,g',e,s⟩:=ih i (Nat.lt_of_succ_lt_succ hi);exact⟨g,g',.tmp r e,s⟩
 |@own o v' f' ws vs fp' r t ih=>
  intro i hi
  cases i with
  |zero=>exact⟨[],_,hw t,List.sublist_append_right _ _⟩
  |succ i=>
   obtain⟨g,g',e,s⟩:=ih i (Nat.lt_of_succ_lt_succ hi);refine⟨f'++g,g',?_,?_⟩
   ·rw[List.append_assoc];exact .own r e
   ·rw[List.append_assoc];exact(List.Sublist.refl _).append s
theorem DOk.put(h:DOk K H₀ H σD σ){w:Option W}{v:Option V}(hw:∀{ws:DSt}{vs:St}{g:List Addr},Slots K H₀ H ws vs g->Slots K H₀ H (w::ws) (v::vs) g)(i:Nat):DOk K H₀ H (σD.set i w) (σ.set i v):=by
 obtain⟨s,fp,sl,nd,fr⟩:=h
 by_cases hi:i<σD.length
 ·obtain⟨g,g',e,sb⟩:=sl.set (f:=[]) hw i hi;rw[List.nil_append]at e;exact⟨s,_,e,sb.nodup nd,λa ha=>fr a (sb.subset ha)⟩
 ·rw[List.set_eq_of_length_le (by omega),List.set_eq_of_length_le (by rw[<-sl.length];omega)];exact⟨s,fp,sl,nd,fr⟩
theorem DOk.setV(h:DOk K H₀ H σD σ){d:D}{v:V}(r:Rep K H d v)(i:Nat):DOk K H₀ H (σD.set i (some (.val d))) (σ.set i (some v)):=h.put (.val r) i
theorem DOk.setN(h:DOk K H₀ H σD σ)(v:Option V)(i:Nat):DOk K H₀ H (σD.set i none) (σ.set i v):=h.put (.none) i
theorem DOk.setO{H1:Hp}(h:DOk K H₀ H1 σD σ)(s1:Same H1 H){a:Addr}{vs:List V}{xs:List D}(n:H1 a=none)(e:H a=some (.lst vs))(r:Reps K H xs vs)(i:Nat):DOk K H₀ H (σD.set i (some (.own (.lst xs)))) (σ.set i (some (.ref a))):=by
 obtain⟨s,fp,sl,nd,fr⟩:=id h;have lv:∀b∈fp,b≠a:=λb hb z=>by
  obtain⟨u,e1,_⟩:=sl.live b hb;rw[z,n]at e1;cases e1
 obtain⟨s',fp',sl',_⟩:=id (h.after s1);have sl2:Slots K H₀ H σD σ fp:=sl.keep s1.pers (λh=>h.same s1) λb _ u e=>s1 b u e
 by_cases hi:i<σD.length
 ·obtain⟨g,g',e',sb⟩:=sl2.set (f:=[a]) (w:=some (.own (.lst xs))) (v:=some (.ref a)) (λt=>.own ⟨a,vs,rfl,rfl,e,r⟩ t) i hi;refine⟨s',_,e',?_,λb hb=>?_⟩
  ·have nd2:=sb.nodup nd;rw[List.nodup_append]at nd2 ⊢;refine⟨nd2.1,?_,λx hx y hy=>?_⟩
   ·rw[List.singleton_append,List.nodup_cons];exact⟨λz=>lv a (sb.subset (List.mem_append_right _ z)) rfl,nd2.2.1⟩
   ·rcases List.mem_append.mp hy with z|z
    ·rw[List.mem_singleton.mp z];exact lv x (sb.subset (List.mem_append_left _ hx))
    ·exact nd2.2.2 x hx y z
  ·rcases List.mem_append.mp hb with z|z
   ·exact fr b (sb.subset (List.mem_append_left _ z))
   ·rcases List.mem_append.mp z with z|z
    ·rw[List.mem_singleton.mp z]
     cases q:H₀ a with
     |none=>rfl
     |some u=>rw[s a u q]at n;cases n
    ·exact fr b (sb.subset (List.mem_append_right _ z))
 ·rw[List.set_eq_of_length_le (by omega),List.set_eq_of_length_le (by rw[<-sl2.length];omega)];exact⟨s',fp,sl2,nd,fr⟩
theorem Slots.write{fp:List Addr}(h:Slots K H₀ H σD σ fp)(nd:fp.Nodup){i:Nat}{xs ys:List D}{a:Addr}{vs:List V}(e:σD[i]?=some (some (.own (.lst xs))))(ev:σ[i]?=some (some (.ref a)))(ea:∃zs,H a=some (.lst zs))(r:Reps K H ys vs):
  Slots K H₀ (upd H a (.lst vs)) (clr (σD.set i (some (.own (.lst ys))))) σ fp:=by
 have ps:Pers H (upd H a (.lst vs)):=λb o hb hp=>by
  obtain⟨zs,ea⟩:=ea;rw[zn (λz=>by rw[z,ea]at hb;cases hb;cases hp)];exact hb
 induction h generalizing i with
 |nil=>simp at e
 |none t ih=>
  cases i with
  |zero=>simp at e
  |succ i=>exact .none (ih nd (by simpa using e) (by simpa using ev))
 |val q t ih=>
  cases i with
  |zero=>simp at e
  |succ i=>exact .val (q.mono ps) (ih nd (by simpa using e) (by simpa using ev))
 |vw q t ih=>
  cases i with
  |zero=>simp at e
  |succ i=>exact .vw q (ih nd (by simpa using e) (by simpa using ev))
 |vd q t ih=>
  cases i with
  |zero=>simp at e
  |succ i=>exact .vd q (ih nd (by simpa using e) (by simpa using ev))
 |exc q t ih=>
  cases i with
  |zero=>simp at e
  |succ i=>exact .exc q (ih nd (by simpa using e) (by simpa using ev))
 |scr q t ih=>
  cases i with
  |zero=>simp at e
  |succ i=>exact .scr q (ih nd (by simpa using e) (by simpa using ev))
 |pen q t ih=>
  cases i with
  |zero=>simp at e
  |succ i=>exact .pen (ps _ _ q rfl) (ih nd (by simpa using e) (by simpa using ev))
 |tmp q t ih=>
  cases i with
  |zero=>simp at e
  |succ i=>exact .none (ih nd (by simpa using e) (by simpa using ev))
 |@own o v f ws wvs fp' q t ih=>
  rw[List.nodup_append]at nd
  cases i with
  |zero=>
   simp at e ev;subst e ev;obtain⟨b,zs,eb,rfl,hb,rb⟩:=q
   cases eb;refine .own ⟨a,vs,rfl,rfl,zj,r.mono ps⟩ (t.keepC ps λc hc u hu=>?_);rw[zn (λz=>nd.2.2 a (by simp) c hc z.symm)];exact hu
  |succ i=>
   have e':ws[i]?=some (some (.own (.lst xs))):=by simpa using e
   have ev':wvs[i]?=some (some (.ref a)):=by simpa using ev
   refine .own (q.keep ps λc hc u hu=>?_) (ih nd.2.1 e' ev');obtain⟨v',e1,f',⟨b,zs,rfl,rfl,hb,rb⟩,m⟩:=t.get e';rw[ev']at e1
   cases e1;rw[zn (λz=>nd.2.2 c hc a (m a (by simp)) z)];exact hu
theorem vo{a:Addr}{o o':HO}(e:H a=some o)(p:o.per=false):Pers H (upd H a o'):=λb u hb hp=>by
 rw[zn (λz=>by rw[z,e]at hb;cases hb;rw[p]at hp;cases hp)];exact hb
theorem DOk.write(h:DOk K H₀ H σD σ){i:Nat}{xs ys:List D}{a:Addr}{vs zs:List V}(e:σD[i]?=some (some (.own (.lst xs))))(ev:σ[i]?=some (some (.ref a)))(ea:H a=some (.lst zs))(r:Reps K H ys vs):DOk K H₀ (upd H a (.lst vs)) (clr (σD.set i (some (.own (.lst ys))))) σ:=by
 obtain⟨a',_,e1,_,_,n⟩:=h.ownL e;rw[ev]at e1
 cases e1;obtain⟨s,fp,sl,nd,fr⟩:=h;refine⟨λb o hb=>?_,fp,sl.write nd e ev ⟨_,ea⟩ r,nd,fr⟩;rw[zn (λz=>by rw[z,n]at hb;cases hb)];exact s b o hb
end
section
variable {X:Cx}{pins:List (Addr×Obj)}{σ:St}{H:Hp}{s:Shared}{a:Addr}
theorem Inv.frz(I:Inv X pins σ H s){vs:List V}(h:H a=some (.lst vs)):∃o,Inv X pins σ (upd H a (.frz o (.lst vs))) s:=by
 obtain⟨z,its,n,r,e⟩:=I.hok a _ h;exact⟨_,I.write (h':=s.heap) (t':=s.toks) (x:=a) (e:=a) (by rw[h];exact trivial) (.inl rfl) (λb u _ q=>q) ⟨_,e⟩ ⟨e,z,its,n,r,e⟩⟩
theorem Inv.frzK(I:Inv X pins σ H s){vs:List (Key×V)}(h:H a=some (.dK vs)):∃o,Inv X pins σ (upd H a (.frz o (.dK vs))) s:=by
 obtain⟨z,y,its,r,o,es,ep,e,c⟩:=I.hok a _ h;exact⟨o,I.write (h':=s.heap) (t':=s.toks) (x:=a) (e:=a) (by rw[h];exact trivial) (.inl rfl) (λb u _ q=>q) ⟨_,e⟩ ⟨e,z,y,its,r,o,es,ep,e,c⟩⟩
theorem zjp{P:Program}{w:World}{h:Heap}{x y z:Int}{tx ty tz:Tok}{n:Nat}(e:h.get? a=some { cls:=.type "list",data:=.seq #[.int x tx,.int y ty,.int z tz] n }):ObjOk P w H h a (zbg a) :=
 ⟨⟨x,y,z,tx,ty,tz,n,e⟩,⟨_,e⟩,λh1 h2 ⟨x,y,z,tx,ty,tz,n,e⟩ k=>⟨x,y,z,tx,ty,tz,n,k _ e⟩⟩
theorem Inv.toPen(I:Inv X pins σ H s){x y z:Int}(h:H a=some (.lst [.int x,.int y,.int z])):Inv X pins σ (upd H a (zbg a)) s:=by
 obtain⟨zz,its,n,r,e⟩:=I.hok a _ h
 cases r with
 |cons r1 r=>
  cases r with
  |cons r2 r=>
   cases r with
   |cons r3 r=>
    cases r;obtain⟨t1,rfl⟩:=r1;obtain⟨t2,rfl⟩:=r2;obtain⟨t3,rfl⟩:=r3;exact I.write (h':=s.heap) (t':=s.toks) (x:=a) (e:=a) (by rw[h];exact trivial) (.inl rfl) (λb u _ q=>q) ⟨_,e⟩ (zjp e)
end
abbrev DTE:=DSt->(D->Prop)->Prop
abbrev DTF:=DSt->(List D->Prop)->Prop
abbrev DTT:=DSt->(Bool->Prop)->Prop
abbrev DTP:=DSt->(List W->Prop)->Prop
def DEnd(X:Cx)(pins:List (Addr×Obj))(σ:St)(H:Hp)(Q:D->Prop)(u:Value)(s':Shared):Prop:=∃v H' d,Inv X pins σ H' s'/\RelV v u/\Same H H'/\Rep X.K H' d v/\Q d
def zva(X:Cx)(pins:List (Addr×Obj))(σ:St)(H:Hp)(Q:D->Prop)(u:Value)(s':Shared):Prop:=∃v H' d,Inv X pins σ H' s'/\RelV v u/\Same H H'/\RepT X.K H' d v/\Q d
def zgk(X:Cx)(pins:List (Addr×Obj))(σ:St)(H:Hp)(Q:List D->Prop)(u:Value)(s':Shared):Prop:=∃a H' vs xs,u=.ref a/\Inv X pins σ H' s'/\Same H H'/\H a=none/\H' a=some (.lst vs)/\Reps X.K H' xs vs/\Q xs
structure DE(X:Cx)(e:Expr)(t:DTE):Prop where
 run:∀(pins:List (Addr×Obj)) (s:Shared) (σ:St) (H H₀:Hp) (σD:DSt) (Q:D->Prop),Inv X pins σ H s->DOk X.K H₀ H σD σ->t σD Q->wpAny (model X.prog X.w) X.A (eval e X.env) (DEnd X pins σ H Q) X.xe s
structure DV(X:Cx)(e:Expr)(t:DTE):Prop where
 run:∀(pins:List (Addr×Obj)) (s:Shared) (σ:St) (H H₀:Hp) (σD:DSt) (Q:D->Prop),Inv X pins σ H s->DOk X.K H₀ H σD σ->t σD Q->wpAny (model X.prog X.w) X.A (eval e X.env) (zva X pins σ H Q) X.xe s
structure DF(X:Cx)(e:Expr)(t:DTF):Prop where
 run:∀(pins:List (Addr×Obj)) (s:Shared) (σ:St) (H H₀:Hp) (σD:DSt) (Q:List D->Prop),Inv X pins σ H s->DOk X.K H₀ H σD σ->t σD Q->wpAny (model X.prog X.w) X.A (eval e X.env) (zgk X pins σ H Q) X.xe s
def zrn(X:Cx)(pins:List (Addr×Obj))(σ:St)(H:Hp)(Q:Bool->Prop)(b:Bool)(s':Shared):Prop:=∃H',Inv X pins σ H' s'/\Same H H'/\Q b
structure DT(X:Cx)(e:Expr)(t:DTT):Prop where
 run:∀(pins:List (Addr×Obj)) (s:Shared) (σ:St) (H H₀:Hp) (σD:DSt) (Q:Bool->Prop),Inv X pins σ H s->DOk X.K H₀ H σD σ->t σD Q->wpAny (model X.prog X.w) X.A (isTrue e X.env (eval e X.env)) (zrn X pins σ H Q) X.xe s
structure DWt(X:Cx)(e:Expr)(t:DTT):Prop where
 run:∀(whole:Sem Value) (pins:List (Addr×Obj)) (s:Shared) (σ:St) (H H₀:Hp) (σD:DSt) (Q:Bool->Prop),Inv X pins σ H s->DOk X.K H₀ H σD σ->t σD Q->wpAny (model X.prog X.w) X.A (isTrue e X.env whole) (zrn X pins σ H Q) X.xe s
structure DA(X:Cx)(es:List Expr)(t:DTF):Prop where
 run:∀(pos:Pos) (pins:List (Addr×Obj)) (s:Shared) (σ:St) (H H₀:Hp) (σD:DSt) (Q:List D->Prop),Inv X pins σ H s->DOk X.K H₀ H σD σ->t σD Q ->
  wpAny (model X.prog X.w) X.A (spliced (backTo pos (starEach es X.env))) (λus s'=>∃vs H' ds,Inv X pins σ H' s'/\Vals vs us/\Same H H'/\Reps X.K H' ds vs/\Q ds) X.xe s
inductive RepTs(K:PySem.W.Frag)(H:Hp):List D->List V->Prop
 |nil:RepTs K H [] []
 |cons {d:D}{v:V}{ds:List D}{vs:List V} (r:RepT K H d v) (t:RepTs K H ds vs):RepTs K H (d::ds) (v::vs)
structure DAv(X:Cx)(es:List Expr)(t:DTF):Prop where
 run:∀(pos:Pos) (pins:List (Addr×Obj)) (s:Shared) (σ:St) (H H₀:Hp) (σD:DSt) (Q:List D->Prop),Inv X pins σ H s->DOk X.K H₀ H σD σ->t σD Q ->
  wpAny (model X.prog X.w) X.A (spliced (backTo pos (starEach es X.env))) (λus s'=>∃vs H' ds,Inv X pins σ H' s'/\Vals vs us/\Same H H'/\RepTs X.K H' ds vs/\Q ds) X.xe s
section
variable (K:PySem.W.Frag)
def zs1(H:Hp):W->V->Prop
 |.val d,v=>Rep K H d v
 |.vw xs,v=>RepL K H xs v
 |.vd xs,v=>RepD K H xs v
 |.exc xs,v=>RepX K H xs v
 |.scr ns,v=>∃a,v=.ref a/\SqL K H a (ns.map V.int)
 |.pen,v=>∃a,v=.ref a/\H a=some (zbg a)
 |.tmp _,_=>False
 |.own _,_=>False
inductive RepWs(H:Hp):List W->List V->Prop
 |nil:RepWs H [] []
 |cons {w:W}{v:V}{ws:List W}{vs:List V} (r:zs1 K H w v) (t:RepWs H ws vs):RepWs H (w::ws) (v::vs)
end
theorem RepWs.length{K:PySem.W.Frag}{H:Hp}{ws:List W}{vs:List V}(h:RepWs K H ws vs):ws.length=vs.length:=by
 induction h with
 |nil=>rfl
 |cons _ _ ih=>simp[ih]
structure DPs(X:Cx)(es:List Expr)(t:DTP):Prop where
 run:∀(pos:Pos) (pins:List (Addr×Obj)) (s:Shared) (σ:St) (H H₀:Hp) (σD:DSt) (Q:List W->Prop),Inv X pins σ H s->DOk X.K H₀ H σD σ->t σD Q ->
  wpAny (model X.prog X.w) X.A (spliced (backTo pos (starEach es X.env))) (λus s'=>∃vs H' ws,Inv X pins σ H' s'/\Vals vs us/\Same H H'/\RepWs X.K H' ws vs/\Q ws) X.xe s
section
variable (K:PySem.W.Frag)
def cnE(t:DTE):TE:=λσ H Q=>∃H₀ σD QD,DOk K H₀ H σD σ/\t σD QD/\∀v H' d,Same H H'->Rep K H' d v->QD d->Q v H'
def cnV(t:DTE):TE:=λσ H Q=>∃H₀ σD QD,DOk K H₀ H σD σ/\t σD QD/\∀v H' d,Same H H'->RepT K H' d v->QD d->Q v H'
def cnF(t:DTF):TE:=λσ H Q=>∃H₀ σD QD,DOk K H₀ H σD σ/\t σD QD/\∀a H' vs xs,Same H H'->H a=none->H' a=some (.lst vs)->Reps K H' xs vs->QD xs->Q (.ref a) H'
def cnT(t:DTT):TT:=λσ H Q=>∃H₀ σD QD,DOk K H₀ H σD σ/\t σD QD/\∀b H',Same H H'->QD b->Q b H'
def cnA(t:DTF):TA:=λσ H Q=>∃H₀ σD QD,DOk K H₀ H σD σ/\t σD QD/\∀vs H' ds,Same H H'->Reps K H' ds vs->QD ds->Q vs H'
def zwf(t:DTF):TA:=λσ H Q=>∃H₀ σD QD,DOk K H₀ H σD σ/\t σD QD/\∀vs H' ds,Same H H'->RepTs K H' ds vs->QD ds->Q vs H'
def cnP(t:DTP):TA:=λσ H Q=>∃H₀ σD QD,DOk K H₀ H σD σ/\t σD QD/\∀vs H' ws,Same H H'->RepWs K H' ws vs->QD ws->Q vs H'
end
section
variable {X:Cx}{e:Expr}{es:List Expr}
theorem DE.pe{t:DTE}(h:DE X e t):PE X e (cnE X.K t):=λpins s σ H Q I zq63=>by obtain⟨H₀,σD,QD,ok,q,k⟩:=zq63;exact thn (h.run pins s σ H H₀ σD QD I ok q) λu s' zq50=>by obtain⟨v,H',d,I',r,sm,rp,qd⟩:=zq50;exact⟨v,H',I',r,k v H' d sm rp qd⟩
theorem DV.pe{t:DTE}(h:DV X e t):PE X e (cnV X.K t):=λpins s σ H Q I zq63=>by obtain⟨H₀,σD,QD,ok,q,k⟩:=zq63;exact thn (h.run pins s σ H H₀ σD QD I ok q) λu s' zq50=>by obtain⟨v,H',d,I',r,sm,rp,qd⟩:=zq50;exact⟨v,H',I',r,k v H' d sm rp qd⟩
theorem DF.pe{t:DTF}(h:DF X e t):PE X e (cnF X.K t):=λpins s σ H Q I zq63=>by obtain⟨H₀,σD,QD,ok,q,k⟩:=zq63;exact thn (h.run pins s σ H H₀ σD QD I ok q) λu s' zq50=>by obtain⟨a,H',vs,xs,eu,I',sm,n,e,rp,qd⟩:=zq50;exact⟨.ref a,H',I',eu,k a H' vs xs sm n e rp qd⟩
theorem DT.pt{t:DTT}(h:DT X e t):PT X e (cnT X.K t):=λpins s σ H Q I zq63=>by obtain⟨H₀,σD,QD,ok,q,k⟩:=zq63;exact thn (h.run pins s σ H H₀ σD QD I ok q) λu s' zq50=>by obtain⟨H',I',sm,qd⟩:=zq50;exact⟨H',I',k u H' sm qd⟩
theorem DA.pa{t:DTF}(h:DA X es t):PA X es (cnA X.K t):=λpos pins s σ H Q I zq65=>by obtain⟨H₀,σD,QD,ok,q,k⟩:=zq65;exact thn (h.run pos pins s σ H H₀ σD QD I ok q) λus s' zq60=>by obtain⟨vs,H',ds,I',r,sm,rp,qd⟩:=zq60;exact⟨vs,H',I',r,k vs H' ds sm rp qd⟩
theorem DAv.pa{t:DTF}(h:DAv X es t):PA X es (zwf X.K t):=λpos pins s σ H Q I zq68=>by obtain⟨H₀,σD,QD,ok,q,k⟩:=zq68;exact thn (h.run pos pins s σ H H₀ σD QD I ok q) λus s' zq63=>by obtain⟨vs,H',ds,I',r,sm,rp,qd⟩:=zq63;exact⟨vs,H',I',r,k vs H' ds sm rp qd⟩
theorem DPs.pa{t:DTP}(h:DPs X es t):PA X es (cnP X.K t):=λpos pins s σ H Q I zq67=>by obtain⟨H₀,σD,QD,ok,q,k⟩:=zq67;exact thn (h.run pos pins s σ H H₀ σD QD I ok q) λus s' zq62=>by obtain⟨vs,H',ws,I',r,sm,rp,qd⟩:=zq62;exact⟨vs,H',I',r,k vs H' ws sm rp qd⟩
theorem DE.of{t:DTE}{t':TE}(h:PE X e t')(k:∀σ H H₀ σD QD,DOk X.K H₀ H σD σ->t σD QD->t' σ H (λv H'=>∃d,Same H H'/\Rep X.K H' d v/\QD d)):DE X e t :=
 ⟨λpins s σ H H₀ σD Q I ok q=>thn (h pins s σ H _ I (k σ H H₀ σD Q ok q)) λu s' zq80=>by obtain⟨v,H',I',r,d,sm,rp,qd⟩:=zq80;exact⟨v,H',d,I',r,sm,rp,qd⟩⟩
theorem DV.of{t:DTE}{t':TE}(h:PE X e t')(k:∀σ H H₀ σD QD,DOk X.K H₀ H σD σ->t σD QD->t' σ H (λv H'=>∃d,Same H H'/\RepT X.K H' d v/\QD d)):DV X e t :=
 ⟨λpins s σ H H₀ σD Q I ok q=>thn (h pins s σ H _ I (k σ H H₀ σD Q ok q)) λu s' zq80=>by obtain⟨v,H',I',r,d,sm,rp,qd⟩:=zq80;exact⟨v,H',d,I',r,sm,rp,qd⟩⟩
theorem DF.of{t:DTF}{t':TE}(h:PE X e t')(k:∀σ H H₀ σD QD,DOk X.K H₀ H σD σ->t σD QD->t' σ H (λv H'=>∃a vs xs,v=.ref a/\Same H H'/\H a=none/\H' a=some (.lst vs)/\Reps X.K H' xs vs/\QD xs)):DF X e t :=
 ⟨λpins s σ H H₀ σD Q I ok q=>thn (h pins s σ H _ I (k σ H H₀ σD Q ok q)) λu s' zq80=>by obtain⟨v,H',I',r,a,vs,xs,ev,sm,n,e,rp,qd⟩:=zq80;exact⟨a,H',vs,xs,by subst ev;exact r,I',sm,n,e,rp,qd⟩⟩
theorem DT.of{t:DTT}{t':TT}(h:PT X e t')(k:∀σ H H₀ σD QD,DOk X.K H₀ H σD σ->t σD QD->t' σ H (λb H'=>Same H H'/\QD b)):DT X e t :=
 ⟨λpins s σ H H₀ σD Q I ok q=>thn (h pins s σ H _ I (k σ H H₀ σD Q ok q)) λu s' zq80=>by obtain⟨H',I',sm,qd⟩:=zq80;exact⟨H',I',sm,qd⟩⟩
theorem DE.dv{t:DTE}(h:DE X e t):DV X e t:=⟨λpins s σ H H₀ σD Q I ok q=>thn (h.run pins s σ H H₀ σD Q I ok q) λu s' zq28=>by obtain⟨v,H',d,I',r,sm,rp,qd⟩:=zq28;exact⟨v,H',d,I',r,sm,rp.top,qd⟩⟩
theorem je{pins:List (Addr×Obj)}{σ:St}{H H':Hp}{s:Shared}{a:Addr}{vs:List V}{xs:List D}(I:Inv X pins σ H' s)(sm:Same H H')(n:H a=none)(e:H' a=some (.lst vs))(r:Reps X.K H' xs vs):
  ∃H'',Inv X pins σ H'' s/\Same H H''/\Rep X.K H'' (.list xs) (.ref a):=by
 obtain⟨o,J⟩:=I.frz e;refine⟨_,J,λb u hb=>?_,.lst zj (r.mono (vo e rfl))⟩;rw[zn (z9 hb n)];exact sm b u hb
def dFz(t:DTF):DTE:=λσ Q=>t σ λxs=>Q (.list xs)
theorem DF.de{t:DTF}(h:DF X e t):DE X e (dFz t):=⟨λpins s σ H H₀ σD Q I ok q=>thn (h.run pins s σ H H₀ σD _ I ok q) λu s' zq34=>by
 obtain⟨a,H',vs,xs,eu,I',sm,n,e,rp,qd⟩:=zq34;obtain⟨H'',J,sm',r'⟩:=je I' sm n e rp;exact⟨.ref a,H'',.list xs,J,eu,sm',r',qd⟩⟩
def zm6(i:Nat):DTE:=λσ Q=>match σ[i]? with
 |some (some (.val d))=>Q d
 |_=>False
def zm7(i:Nat):DTE:=λσ Q=>match σ[i]? with
 |some (some (.val d))=>Q d
 |some (some (.own (.lst xs)))=>Q (.list xs)
 |some (some (.vw xs))=>Q (.list xs)
 |_=>False
def dC(d:D):DTE:=λ_ Q=>Q d
theorem ya(i:Nat){x:Str}{pos:Pos}(hN:X.N[i]?=some x:=by rfl)(hv:Vis X.env.scope x:=by first|exact Or.inl rfl|exact Or.inr (Or.inl rfl)|exact Or.inr (Or.inr rfl))(hd:(x ==("__debug__" : Str))=false:=by decide)
  (hcd:(x ==("__classdict__" : Str))=false:=by decide):DE X (.Name x pos) (zm6 i):=by
 refine DE.of (wu (i:=i) hN hv hd hcd) λσ H H₀ σD QD ok q=>?_;unfold zm6 at q
 split at q
 ·next d e=>
  obtain⟨v,e1,r⟩:=ok.val e;exact⟨v,e1,d,Same.refl _,r,q⟩
 ·exact q.elim
theorem zf(i:Nat){x:Str}{pos:Pos}(hN:X.N[i]?=some x:=by rfl)(hv:Vis X.env.scope x:=by first|exact Or.inl rfl|exact Or.inr (Or.inl rfl)|exact Or.inr (Or.inr rfl))(hd:(x ==("__debug__" : Str))=false:=by decide)
  (hcd:(x ==("__classdict__" : Str))=false:=by decide):DV X (.Name x pos) (zm7 i):=by
 refine DV.of (wu (i:=i) hN hv hd hcd) λσ H H₀ σD QD ok q=>?_;unfold zm7 at q
 split at q
 ·next d e=>
  obtain⟨v,e1,r⟩:=ok.val e;exact⟨v,e1,d,Same.refl _,r.top,q⟩
 ·next xs e=>
  obtain⟨a,vs,e1,e2,r,_⟩:=ok.ownL e;exact⟨.ref a,e1,.list xs,Same.refl _,.inr ⟨xs,rfl,a,vs,rfl,.inl e2,r⟩,q⟩
 ·next xs e=>
  obtain⟨v,e1,r⟩:=ok.vw e;exact⟨v,e1,.list xs,Same.refl _,.inr ⟨xs,rfl,r⟩,q⟩
 ·exact q.elim
theorem zr{i j pos}:DE X (.Constant (.int i) j pos) (dC (.int i)):=DE.of w4 λσ H H₀ σD QD ok q=>⟨.int i,Same.refl _,.int,q⟩
theorem qb{b j pos}:DE X (.Constant (.bool b) j pos) (dC (.bool b)):=DE.of zuj λσ H H₀ σD QD ok q=>⟨.bool b,Same.refl _,.bl,q⟩
theorem zfd{j pos}:DE X (.Constant .none j pos) (dC .none):=DE.of zsc λσ H H₀ σD QD ok q=>⟨.none,Same.refl _,.non,q⟩
theorem yy{x j pos}:DE X (.Constant (.str x) j pos) (dC (.str x)):=DE.of zsd λσ H H₀ σD QD ok q=>⟨.str x,Same.refl _,.str,q⟩
theorem zjq{x:Str}{d:D}{v:V}{u:Value}{pos:Pos}(hg:Gl X x)(hm:X.mg x=some u)(r:RelV v u)(rp:∀H,Rep X.K H d v)(hd:(x ==("__debug__" : Str))=false:=by decide):DE X (.Name x pos) (dC d) :=
 DE.of (xy hg hm r hd) λσ H H₀ σD QD ok q=>⟨d,Same.refl _,rp H,q⟩
def zm8:DTF:=λ_ Q=>Q []
def zgl(t:DTE)(r:DTF):DTF:=λσ Q=>t σ λd=>r σ λds=>Q (d::ds)
theorem zv:DA X [] zm8:=⟨λpos pins s σ H H₀ σD Q I ok q=>thn (wb pos pins s σ H (λvs H'=>vs = []/\H'=H) I ⟨rfl,rfl⟩) λus s' zq47=>by obtain⟨vs,H',I',r,e1,e2⟩:=zq47;subst e1 e2;exact⟨[],H',[],I',r,Same.refl _,.nil,q⟩⟩
theorem ze{t:DTE}{r:DTF}(ha:DE X e t)(hr:DA X es r)(hs:starEach (e::es) X.env=(false,eval e X.env)::starEach es X.env:=by rfl):DA X (e::es) (zgl t r):=⟨λpos pins s σ H H₀ σD Q I ok q=>by
 refine thn (yo ha.pe hr.pa hs pos pins s σ H (λvs H'=>∃ds,Same H H'/\Reps X.K H' ds vs/\Q ds) I ?_) λus s' zq19=>by obtain⟨vs,H',I',r,ds,sm,rp,qd⟩:=zq19;exact⟨vs,H',ds,I',r,sm,rp,qd⟩
 exact⟨H₀,σD,_,ok,q,λv H1 d s1 r1 q1=>⟨H₀,σD,_,ok.after s1,q1,λvs H2 ds s2 r2 q2=>⟨d::ds,s1.trans s2,.cons (r1.same s2) r2,q2⟩⟩⟩⟩
theorem zw:DAv X [] zm8:=⟨λpos pins s σ H H₀ σD Q I ok q=>thn (wb pos pins s σ H (λvs H'=>vs = []/\H'=H) I ⟨rfl,rfl⟩) λus s' zq49=>by obtain⟨vs,H',I',r,e1,e2⟩:=zq49;subst e1 e2;exact⟨[],H',[],I',r,Same.refl _,.nil,q⟩⟩
theorem zp{t:DTE}{r:DTF}(ha:DV X e t)(hr:DAv X es r)(hs:starEach (e::es) X.env=(false,eval e X.env)::starEach es X.env:=by rfl):DAv X (e::es) (zgl t r):=⟨λpos pins s σ H H₀ σD Q I ok q=>by
 refine thn (yo ha.pe hr.pa hs pos pins s σ H (λvs H'=>∃ds,Same H H'/\RepTs X.K H' ds vs/\Q ds) I ?_) λus s' zq20=>by obtain⟨vs,H',I',r,ds,sm,rp,qd⟩:=zq20;exact⟨vs,H',ds,I',r,sm,rp,qd⟩
 exact⟨H₀,σD,_,ok,q,λv H1 d s1 r1 q1=>⟨H₀,σD,_,ok.after s1,q1,λvs H2 ds s2 r2 q2=>⟨d::ds,s1.trans s2,.cons (r1.same s2) r2,q2⟩⟩⟩⟩
def zgm:DTP:=λ_ Q=>Q []
def zm9(t:DTE)(r:DTP):DTP:=λσ Q=>t σ λd=>r σ λws=>Q (.val d::ws)
def zla(i:Nat)(r:DTP):DTP:=λσ Q=>match σ[i]? with
 |some (some (.own (.lst xs)))=>r σ λws=>Q (.vw xs::ws)
 |some (some (.vw xs))=>r σ λws=>Q (.vw xs::ws)
 |some (some (.scr ns))=>r σ λws=>Q (.scr ns::ws)
 |some (some (.val d))=>r σ λws=>Q (.val d::ws)
 |some (some .pen)=>r σ λws=>Q (.pen::ws)
 |_=>False
theorem ye:DPs X [] zgm:=⟨λpos pins s σ H H₀ σD Q I ok q=>thn (wb pos pins s σ H (λvs H'=>vs = []/\H'=H) I ⟨rfl,rfl⟩) λus s' zq49=>by obtain⟨vs,H',I',r,e1,e2⟩:=zq49;subst e1 e2;exact⟨[],H',[],I',r,Same.refl _,.nil,q⟩⟩
theorem xi{t:DTE}{r:DTP}(ha:DE X e t)(hr:DPs X es r)(hs:starEach (e::es) X.env=(false,eval e X.env)::starEach es X.env:=by rfl):DPs X (e::es) (zm9 t r):=⟨λpos pins s σ H H₀ σD Q I ok q=>by
 refine thn (yo ha.pe hr.pa hs pos pins s σ H (λvs H'=>∃ws,Same H H'/\RepWs X.K H' ws vs/\Q ws) I ?_) λus s' zq20=>by obtain⟨vs,H',I',r,ds,sm,rp,qd⟩:=zq20;exact⟨vs,H',ds,I',r,sm,rp,qd⟩
 exact⟨H₀,σD,_,ok,q,λv H1 d s1 r1 q1=>⟨H₀,σD,_,ok.after s1,q1,λvs H2 ds s2 r2 q2=>⟨.val d::ds,s1.trans s2,.cons (r1.same s2) r2,q2⟩⟩⟩⟩
theorem yj(i:Nat){x:Str}{pos:Pos}{r:DTP}(hr:DPs X es r)(hN:X.N[i]?=some x:=by rfl)(hv:Vis X.env.scope x:=by first|exact Or.inl rfl|exact Or.inr (Or.inl rfl)|exact Or.inr (Or.inr rfl))(hd:(x ==("__debug__" : Str))=false:=by decide)
  (hcd:(x ==("__classdict__" : Str))=false:=by decide) (hs:starEach (.Name x pos::es) X.env=(false,eval (.Name x pos) X.env)::starEach es X.env:=by rfl):DPs X (.Name x pos::es) (zla i r):=⟨λpos' pins s σ H H₀ σD Q I ok q=>by
 refine thn (yo (wu (i:=i) hN hv hd hcd) hr.pa hs pos' pins s σ H (λvs H'=>∃ws,Same H H'/\RepWs X.K H' ws vs/\Q ws) I ?_) λus s' zq46=>by obtain⟨vs,H',I',r,ds,sm,rp,qd⟩:=zq46;exact⟨vs,H',ds,I',r,sm,rp,qd⟩
 unfold zla at q
 split at q
 ·next xs e=>
  obtain⟨a,vs,e1,e2,r,_⟩:=ok.ownL e;exact⟨.ref a,e1,H₀,σD,_,ok,q,λws H2 ds s2 r2 q2=>⟨.vw xs::ds,s2,.cons (RepL.same s2 ⟨a,vs,rfl,.inl e2,r⟩) r2,q2⟩⟩
 ·next xs e=>
  obtain⟨v,e1,r⟩:=ok.vw e;exact⟨v,e1,H₀,σD,_,ok,q,λws H2 ds s2 r2 q2=>⟨.vw xs::ds,s2,.cons (RepL.same s2 r) r2,q2⟩⟩
 ·next ns e=>
  obtain⟨a,e1,r⟩:=ok.scr e;exact⟨.ref a,e1,H₀,σD,_,ok,q,λws H2 ds s2 r2 q2=>⟨.scr ns::ds,s2,.cons ⟨a,rfl,s2.seq r⟩ r2,q2⟩⟩
 ·next d e=>
  obtain⟨v,e1,r⟩:=ok.val e;exact⟨v,e1,H₀,σD,_,ok,q,λws H2 ds s2 r2 q2=>⟨.val d::ds,s2,.cons (r.same s2) r2,q2⟩⟩
 ·next e=>
  obtain⟨a,e1,r⟩:=ok.pen e;exact⟨.ref a,e1,H₀,σD,_,ok,q,λws H2 ds s2 r2 q2=>⟨.pen::ds,s2,.cons ⟨a,rfl,s2 _ _ r⟩ r2,q2⟩⟩
 ·exact q.elim⟩
def zs2(t:DTF):DTE:=λσ Q=>t σ λds=>ds.length<=sizeLine/\Q (.tuple ds)
def zpz(t:DTF):DTF:=λσ Q=>t σ λds=>ds.length<=sizeLine/\Q ds
theorem yw{x1 pos}{t:DTF}(h:DA X es t):DE X (.Tuple es x1 pos) (zs2 t) :=
 DE.of (zmu h.pa) λσ H H₀ σD QD ok q=>⟨H₀,σD,_,ok,q,λvs H1 ds s1 r1 q1=>⟨by rw[<-r1.length];exact q1.1,λp hp=>⟨.tuple ds,s1.trans (zy hp _),.tup (SqT.of zj) (r1.same (zy hp _)),q1.2⟩⟩⟩
theorem xv{pos}{t:DTF}(h:DA X es t):DF X (.List es pos) (zpz t) :=
 DF.of (zh0 h.pa) λσ H H₀ σD QD ok q=>⟨H₀,σD,_,ok,q,λvs H1 ds s1 r1 q1=>⟨by rw[<-r1.length];exact q1.1,λp hp=>⟨p,vs,ds,rfl,s1.trans (zy hp _),s1.free hp,zj,r1.same (zy hp _),q1.2⟩⟩⟩
variable {a b:Expr}{rest:List Expr}{pos:Pos}
def onB(Q:Bool->Prop):D->Prop
 |.bool b=>Q b
 |_=>False
def dTB(t:DTE):DTT:=λσ Q=>t σ (onB Q)
def dOr(t u:DTT):DTT:=λσ Q=>t σ λc=>if c=true then Q true else u σ Q
def zs3(t:DTT):DTT:=λσ Q=>t σ λc=>Q (!c)
theorem DWt.dt{t:DTT}(h:DWt X e t):DT X e t:=⟨h.run _⟩
theorem zam{t:DTT}(ha:DT X a t):DWt X (.BoolOp .Or [a] pos) t:=⟨λwh pins s σ H H₀ σD Q I ok q=>by
 refine isTrue_or (thn (ha.run pins s σ H H₀ σD Q I ok q) λc s1 e=>?_)
 cases c with
 |false=>exact isTrue_or_nil e
 |true=>exact e⟩
theorem zbv{t u:DTT}(ha:DT X a t)(hb:DWt X (.BoolOp .Or (b::rest) pos) u):DWt X (.BoolOp .Or (a::b::rest) pos) (dOr t u):=⟨λwh pins s σ H H₀ σD Q I ok q=>by
 refine isTrue_or (thn (ha.run pins s σ H H₀ σD _ I ok q) λc s1 zr9=>?_);obtain⟨H1,I1,sm,q1⟩:=zr9
 cases c with
 |false=>
  rw[if_neg Bool.false_ne_true]at q1;exact thn (hb.run wh pins s1 σ H1 H₀ σD Q I1 (ok.after sm) q1) λ_ _ zq67=>by obtain⟨H2,I2,s2,q2⟩:=zq67;exact⟨H2,I2,sm.trans s2,q2⟩
 |true=>rw[if_pos rfl]at q1;exact⟨H1,I1,sm,q1⟩⟩
theorem kh{t:DTT}(ha:DT X a t):DT X (.UnaryOp .Not a pos) (zs3 t):=⟨λpins s σ H H₀ σD Q I ok q=>isTrue_not (ha.run pins s σ H H₀ σD (λc=>Q (!c)) I ok q)⟩
def zna:D->Bool
 |.none=>false
 |.bool b=>b
 |.int i=>i != 0
 |.str x=>(x.length:Int) != 0
 |.tuple xs=>!xs.isEmpty
 |.list xs=>!xs.isEmpty
 |.dict kvs=>!kvs.isEmpty
def zs4(t:DTE):DTT:=λσ Q=>t σ λd=>match d with
 |.str x=>x.length<=sizeLine/\Q (zna (.str x))
 |.dict _=>False
 |d=>Q (zna d)
theorem zh9{K:PySem.W.Frag}{H:Hp}{ds:List D}{vs:List V}(r:Reps K H ds vs):(!vs.isEmpty) = !ds.isEmpty:=by cases r <;> rfl
theorem jx{K:PySem.W.Frag}{H:Hp}{d:D}{v:V}(r:RepT K H d v)(h:match d with|.str x=>x.length<=sizeLine|.dict _=>False|_=>True):zsr K v H (zna d):=by
 rcases r with r |⟨xs,rfl,a,vs,rfl,e,r⟩
 ·cases r with
  |non=>rfl
  |bl=>rfl
  |int=>rfl
  |str=>exact⟨h,rfl⟩
  |tup q r=>exact .inr (.inl ⟨_,q,(zh9 r).symm⟩)
  |lst q r=>exact .inl ⟨_,.inl (.inr ⟨_,q⟩),(zh9 r).symm⟩
  |dic q r=>exact h.elim
 ·exact .inl ⟨vs,.inl e,(zh9 r).symm⟩
theorem v5{t:DTE}(h:DV X e t)(he:∀whole,isTrue e X.env whole=(do let v <-whole;standAt e.pos;holding [v] (truthy v)):=by intro _;rfl):DT X e (zs4 t) :=
 DT.of (zms h.pe he) λσ H H₀ σD QD ok q=>⟨H₀,σD,_,ok,q,λv H1 d s1 r1 q1=>by
  cases d with
  |str x=>exact⟨_,jx r1 q1.1,s1,q1.2⟩
  |dict _=>exact q1.elim
  |none=>exact⟨_,jx r1 trivial,s1,q1⟩
  |bool _=>exact⟨_,jx r1 trivial,s1,q1⟩
  |int _=>exact⟨_,jx r1 trivial,s1,q1⟩
  |tuple _=>exact⟨_,jx r1 trivial,s1,q1⟩
  |list _=>exact⟨_,jx r1 trivial,s1,q1⟩⟩
def znb(t u:DTE):DTE:=λσ Q=>t σ λd=>match d with
 |.bool c=>if c=true then u σ Q else Q (.bool false)
 |_=>False
def zs5(t u:DTE):DTE:=λσ Q=>t σ λd=>match d with
 |.bool c=>if c=true then Q (.bool true) else u σ Q
 |_=>False
def zs6(c:DTT)(t u:DTE):DTE:=λσ Q=>c σ λb=>if b=true then t σ Q else u σ Q
theorem zia{op}{t:DTE}(h:DE X a t):DE X (.BoolOp op [a] pos) t:=⟨λpins s σ H H₀ σD Q I ok q=>BoolOp_one (h.run pins s σ H H₀ σD Q I ok q)⟩
theorem DEnd.back{pins:List (Addr×Obj)}{σ:St}{H H1:Hp}{Q:D->Prop}{u:Value}{s':Shared}(s1:Same H H1)(h:DEnd X pins σ H1 Q u s'):DEnd X pins σ H Q u s':=let ⟨v,H',d,I',r,sm,rp,qd⟩:=h;⟨v,H',d,I',r,s1.trans sm,rp,qd⟩
theorem znc{t u:DTE}(ha:DE X a t)(hb:DE X (.BoolOp .And (b::rest) pos) u):DE X (.BoolOp .And (a::b::rest) pos) (znb t u):=⟨λpins s σ H H₀ σD Q I ok q=>by
 refine BoolOp_and (thn (ha.run pins s σ H H₀ σD _ I ok q) λv s1 zr64=>?_);obtain⟨x,H1,d,I1,r1,sm,rp,q1⟩:=zr64
 cases d with
 |bool c=>
  cases rp
  cases r1;refine wpAny_truthy_bool ?_
  cases c with
  |true=>exact thn (hb.run pins s1 σ H1 H₀ σD Q I1 (ok.after sm) (by simpa using q1)) λ_ _ h=>h.back sm
  |false=>exact⟨.bl false,H1,.bool false,I1,rfl,sm,.bl,by simpa using q1⟩
 |_=>exact q1.elim⟩
theorem zvb{t u:DTE}(ha:DE X a t)(hb:DE X (.BoolOp .Or (b::rest) pos) u):DE X (.BoolOp .Or (a::b::rest) pos) (zs5 t u):=⟨λpins s σ H H₀ σD Q I ok q=>by
 refine BoolOp_or (thn (ha.run pins s σ H H₀ σD _ I ok q) λv s1 zr75=>?_);obtain⟨x,H1,d,I1,r1,sm,rp,q1⟩:=zr75
 cases d with
 |bool c=>
  cases rp
  cases r1;refine wpAny_truthy_bool ?_
  cases c with
  |false=>exact thn (hb.run pins s1 σ H1 H₀ σD Q I1 (ok.after sm) (by simpa using q1)) λ_ _ h=>h.back sm
  |true=>exact⟨.bl true,H1,.bool true,I1,rfl,sm,.bl,by simpa using q1⟩
 |_=>exact q1.elim⟩
theorem zgn{c:Expr}{tc:DTT}{t u:DTE}(hc:DT X c tc)(ha:DE X a t)(hb:DE X b u):DE X (.IfExp c a b pos) (zs6 tc t u) :=
 DE.of (zmi hc.pt ha.pe hb.pe) λσ H H₀ σD QD ok q=>⟨H₀,σD,_,ok,q,λk H1 s1 q1=>by
  cases k with
  |true=>rw[if_pos rfl]at q1 ⊢;exact⟨H₀,σD,_,ok.after s1,q1,λv H2 d s2 r2 q2=>⟨d,s1.trans s2,r2,q2⟩⟩
  |false=>rw[if_neg Bool.false_ne_true]at q1 ⊢;exact⟨H₀,σD,_,ok.after s1,q1,λv H2 d s2 r2 q2=>⟨d,s1.trans s2,r2,q2⟩⟩⟩
end
section
variable {X:Cx}{pins:List (Addr×Obj)}{σ:St}{H:Hp}{s:Shared}
theorem Reps.readsW(I:Inv X pins σ H s){ds:List D}{vs:List V}(h:Reps X.K H ds vs)(k:∀d∈ds,∀(v:V) (u:Value),Rep X.K H d v->RelV v u->d.canLay0=true->∃as,Reads s.heap u d as){us:List Value}(r:Vals vs us)(c:PyData.canLayAll0 ds=true):∃as,ReadsAll s.heap us ds as:=by
 induction ds generalizing vs us with
 |nil=>cases h;cases r;exact⟨_,.nil⟩
 |cons d ds ih=>
  cases h with
  |cons q t=>
   cases r with
   |cons r1 r2=>
    simp only[PyData.canLayAll0,Bool.and_eq_true]at c;obtain⟨as,ra⟩:=k d List.mem_cons_self _ _ q r1 c.1;obtain⟨bs,rb⟩:=ih t (λx hx=>k x (List.mem_cons_of_mem _ hx)) r2 c.2;exact⟨_,.cons ra rb⟩
theorem Rep.reads(I:Inv X pins σ H s){d:D}{v:V}{u:Value}(h:Rep X.K H d v)(r:RelV v u)(c:d.canLay0=true):∃as,Reads s.heap u d as:=by
 refine Rep.rec (motive_1:=λd v _=>∀u:Value,RelV v u->d.canLay0=true->∃as,Reads s.heap u d as) (motive_2:=λds vs _=>∀us:List Value,Vals vs us->PyData.canLayAll0 ds=true->∃as,ReadsAll s.heap us ds as) (motive_3:=λ_ _ _=>True)
  ?_ ?_ ?_ ?_ ?_ ?_ ?_ ?_ ?_ trivial (λ_ _ _ _=>trivial) h u r c
 ·intro u r _;cases r;exact⟨_,.none⟩
 ·intro b u r _;cases r;exact⟨_,.bool _⟩
 ·intro i u r _;obtain⟨t,rfl⟩:=r;exact⟨_,.int _ _⟩
 ·intro x u r _;obtain⟨t,rfl⟩:=r;exact⟨_,.str _ _⟩
 ·intro xs a vs h q ih u r c
  cases r;obtain⟨its,rv,⟨o,e1,e2,n,e3⟩,_⟩:=I.tuple h;obtain⟨as,ra⟩:=ih its rv (by simpa[PyData.canLay0]using c);exact⟨_,.tuple e1 e2 e3 (by simpa using ra)⟩
 ·intro xs a vs o h q ih u r c
  cases r;obtain⟨_,z,its,n,rv,e⟩:=I.hok _ _ h;obtain⟨as,ra⟩:=ih its rv (by simpa[PyData.canLay0]using c);exact⟨_,.list e rfl rfl (by simpa using ra)⟩
 ·intro kvs a kws o h q ih u r c;simp[PyData.canLay0]at c
 ·intro us r _;cases r;exact⟨_,.nil⟩
 ·intro d v ds vs q t i j us r c
  cases r with
  |cons r1 r2=>
   simp only[PyData.canLayAll0,Bool.and_eq_true]at c;obtain⟨as,ra⟩:=i _ r1 c.1;obtain⟨bs,rb⟩:=j _ r2 c.2;exact⟨_,.cons ra rb⟩
theorem Reps.reads(I:Inv X pins σ H s){ds:List D}{vs:List V}{us:List Value}(h:Reps X.K H ds vs)(r:Vals vs us)(c:PyData.canLayAll0 ds=true):∃as,ReadsAll s.heap us ds as:=h.readsW I (λ_ _ _ _ q r c=>q.reads I r c) r c
theorem RepT.reads(I:Inv X pins σ H s){d:D}{v:V}{u:Value}(h:RepT X.K H d v)(r:RelV v u)(c:d.canLay0=true):∃as,Reads s.heap u d as:=by
 rcases h with h |⟨xs,rfl,a,vs,rfl,e,q⟩
 ·exact h.reads I r c
 ·cases r;obtain⟨z,its,n,rv,e⟩:=e.ok I.hok;obtain⟨as,ra⟩:=Reps.reads I q rv (by simpa[PyData.canLay0]using c);exact⟨_,.list e rfl rfl (by simpa using ra)⟩
end
def Lay(d:D):Prop:=SeqAt.shaped d=true
theorem Lay.can{d:D}(h:Lay d):d.canLay0=true:=by unfold Lay SeqAt.shaped at h;rw[Bool.and_eq_true]at h;exact h.1
theorem Lay.deep{d:D}(h:Lay d):d.depth<=64:=by unfold Lay SeqAt.shaped at h;rw[Bool.and_eq_true]at h;exact of_decide_eq_true h.2
abbrev DOp:=D->D->(D->Prop)->Prop
structure OpD(X:Cx)(f:Value->Value->Sem Value)(g:DOp):Prop where
 run:∀(pins:List (Addr×Obj)) (s:Shared) (σ:St) (H:Hp) (x y:V) (v u:Value) (a b:D) (Q:D->Prop),Inv X pins σ H s->RelV x v->RelV y u->RepT X.K H a x->RepT X.K H b y->g a b Q->wpAny (model X.prog X.w) X.A (f v u) (DEnd X pins σ H Q) X.xe s
structure OpF(X:Cx)(f:Value->Value->Sem Value)(g:D->D->(List D->Prop)->Prop):Prop where
 run:∀(pins:List (Addr×Obj)) (s:Shared) (σ:St) (H:Hp) (x y:V) (v u:Value) (a b:D) (Q:List D->Prop),Inv X pins σ H s->RelV x v->RelV y u->RepT X.K H a x->RepT X.K H b y->g a b Q->wpAny (model X.prog X.w) X.A (f v u) (zgk X pins σ H Q) X.xe s
def dOp(g:DOp)(ta tb:DTE):DTE:=λσ Q=>ta σ λa=>tb σ λb=>g a b Q
section
variable {X:Cx}{a b c:Expr}{ta tb tc:DTE}{pos:Pos}
theorem OpD.of{f:Value->Value->Sem Value}{r:R2}{g:DOp}(h:OpR X f r)(k:∀x y H a b Q,RepT X.K H a x->RepT X.K H b y->g a b Q->r x y H (λv H'=>∃d,Same H H'/\Rep X.K H' d v/\Q d)):OpD X f g :=
 ⟨λpins s σ H x y v u a b Q I rx ry ra rb q=>thn (h pins s σ H x y v u _ I rx ry (k x y H a b Q ra rb q)) λw s' zq15=>by obtain⟨z,H',I',rz,d,sm,rp,qd⟩:=zq15;exact⟨z,H',d,I',rz,sm,rp,qd⟩⟩
theorem OpF.of{f:Value->Value->Sem Value}{r:R2}{g:D->D->(List D->Prop)->Prop}(h:OpR X f r)(k:∀x y H a b Q,RepT X.K H a x->RepT X.K H b y->g a b Q->r x y H (λv H'=>∃p vs xs,v=.ref p/\Same H H'/\H p=none/\H' p=some (.lst vs)/\Reps X.K H' xs vs/\Q xs)):OpF X f g :=
 ⟨λpins s σ H x y v u a b Q I rx ry ra rb q=>thn (h pins s σ H x y v u _ I rx ry (k x y H a b Q ra rb q)) λw s' zq15=>by obtain⟨z,H',I',rz,p,vs,xs,ez,sm,n,e,rp,qd⟩:=zq15;exact⟨p,H',vs,xs,by subst ez;exact rz,I',sm,n,e,rp,qd⟩⟩
theorem OpF.opD{f:Value->Value->Sem Value}{g:D->D->(List D->Prop)->Prop}(h:OpF X f g):OpD X f (λa b Q=>g a b λxs=>Q (.list xs)) :=
 ⟨λpins s σ H x y v u a b Q I rx ry ra rb q=>thn (h.run pins s σ H x y v u a b _ I rx ry ra rb q) λw s' zq7=>by
  obtain⟨p,H',vs,xs,ew,I',sm,n,e,rp,qd⟩:=zq7;obtain⟨H'',J,sm',r'⟩:=je I' sm n e rp;exact⟨.ref p,H'',.list xs,J,ew,sm',r',qd⟩⟩
theorem zvc{ta tb:DTE}(ha:DV X a ta)(hb:DV X b tb){pins:List (Addr×Obj)}{s:Shared}{σ:St}{H H₀:Hp}{σD:DSt}{R:D->D->Prop}(I:Inv X pins σ H s)(ok:DOk X.K H₀ H σD σ)(h:ta σD λx=>tb σD λy=>R x y)
  {α:Type}{Q:α->Shared->Prop}{f:Value->Value->Sem α}
  (hf:∀v u s2 x y H2 d e,Inv X pins σ H2 s2->RelV x v->RelV y u->Same H H2->RepT X.K H2 d x->RepT X.K H2 e y->R d e->wpAny (model X.prog X.w) X.A (f v u) Q X.xe s2) :
  wpAny (model X.prog X.w) X.A (eval a X.env) (λv s₁=>wpAny (model X.prog X.w) X.A (eval b X.env) (λu s₂=>wpAny (model X.prog X.w) X.A (f v u) Q X.xe s₂) X.xe s₁) X.xe s:=by
 refine thn (ha.run pins s σ H H₀ σD _ I ok h) λv s1 zr1=>?_;obtain⟨x,H1,d,I1,r1,sm1,p1,q1⟩:=zr1;refine thn (hb.run pins s1 σ H1 H₀ σD _ I1 (ok.after sm1) q1) λu s2 zr2=>?_;obtain⟨y,H2,e,I2,r2,sm2,p2,q2⟩:=zr2;exact hf v u s2 x y H2 d e I2 r1 r2 (sm1.trans sm2) (p1.same sm2) p2 q2
theorem yt{op:Operator}{g:DOp}(ho:OpD X (binaryOp op) g)(ha:DV X a ta)(hb:DV X b tb):DE X (.BinOp a op b pos) (dOp g ta tb) :=
 ⟨λpins s σ H H₀ σD Q I ok q=>wpAny_BinOp (zvc ha hb I ok q λv u s2 x y H2 d e I2 rx ry sm rd re qd=>thn (ho.run pins s2 σ H2 x y v u d e Q I2 rx ry rd re qd) λ_ _ z=>z.back sm)⟩
theorem zcl{op:CmpOp}{g:DOp}(ho:OpD X (compareOp op) g)(ha:DV X a ta)(hb:DV X b tb)(hm:behindInMarks op b=false):DE X (.Compare a [op] [b] pos) (dOp g ta tb) :=
 ⟨λpins s σ H H₀ σD Q I ok q=>wpAny_Compare1 (zvc ha hb I ok q λv u s2 x y H2 d e I2 rx ry sm rd re qd=>thn (ho.run pins s2 σ H2 x y v u d e Q I2 rx ry rd re qd) λ_ _ z=>z.back sm) hm⟩
theorem y3{op:CmpOp}{g:DOp}(ho:OpD X (compareOp op) g)(ha:DV X a ta)(hb:DV X b tb)(hm:behindInMarks op b=false):DT X (.Compare a [op] [b] pos) (dTB (dOp g ta tb)) :=
 ⟨λpins s σ H H₀ σD Q I ok q=>by
  refine wpAny_isTrue_Compare1 (thn (ha.run pins s σ H H₀ σD _ I ok q) λv s1 ⟨x,H1,d,I1,r1,sm1,p1,q1⟩=>thn (hb.run pins s1 σ H1 H₀ σD _ I1 (ok.after sm1) q1) λu s2 ⟨y,H2,e,I2,r2,sm2,p2,q2⟩=>
   thn (ho.run pins s2 σ H2 x y v u d e _ I2 r1 r2 (p1.same sm2) p2 q2) λk s3 ⟨z,H3,dz,I3,r3,sm3,p3,q3⟩=>?_) hm
  cases dz with
  |bool k=>
   cases p3
   cases r3;exact wpAny_truthy_bool ⟨H3,I3,(sm1.trans sm2).trans sm3,q3⟩
  |_=>exact q3.elim⟩
def dUn(g:D->(D->Prop)->Prop)(ta:DTE):DTE:=λσ Q=>ta σ λa=>g a Q
def zs7:D->(D->Prop)->Prop
 |.int i,Q=>Q (.int (-i))
 |_,_=>False
theorem v6(ha:DE X a ta):DE X (.UnaryOp .USub a pos) (dUn zs7 ta) :=
 DE.of (zri zmp ha.pe) λσ H H₀ σD QD ok q=>⟨H₀,σD,_,ok,q,λv H1 d s1 r1 q1=>by
  cases d with
  |int i=>cases r1;exact⟨i,rfl,.int (-i),s1,.int,q1⟩
  |_=>exact q1.elim⟩
def zs8:D->(D->Prop)->Prop
 |.bool b,Q=>Q (.bool (!b))
 |_,_=>False
theorem znd(ha:DE X a ta):DE X (.UnaryOp .Not a pos) (dUn zs8 ta) :=
 DE.of (zsf ha.pe) λσ H H₀ σD QD ok q=>⟨H₀,σD,_,ok,q,λv H1 d s1 r1 q1=>by
  cases d with
  |bool i=>cases r1;exact⟨i,rfl,.bool (!i),s1,.bl,q1⟩
  |_=>exact q1.elim⟩
theorem RepT.int{K:PySem.W.Frag}{H:Hp}{i:Int}{v:V}(h:RepT K H (.int i) v):v=.int i:=by
 rcases h with h |⟨_,e,_⟩
 ·cases h;rfl
 ·cases e
theorem RepT.str{K:PySem.W.Frag}{H:Hp}{i:Str}{v:V}(h:RepT K H (.str i) v):v=.str i:=by
 rcases h with h |⟨_,e,_⟩
 ·cases h;rfl
 ·cases e
theorem RepT.bool{K:PySem.W.Frag}{H:Hp}{i:Bool}{v:V}(h:RepT K H (.bool i) v):v=.bl i:=by
 rcases h with h |⟨_,e,_⟩
 ·cases h;rfl
 ·cases e
theorem RepT.none{K:PySem.W.Frag}{H:Hp}{v:V}(h:RepT K H .none v):v=.non:=by
 rcases h with h |⟨_,e,_⟩
 ·cases h;rfl
 ·cases e
theorem RepT.tuple{K:PySem.W.Frag}{H:Hp}{xs:List D}{v:V}(h:RepT K H (.tuple xs) v):∃a vs,v=.ref a/\SqT K H a vs/\Reps K H xs vs:=by
 rcases h with h |⟨_,e,_⟩
 ·cases h with
  |tup h r=>exact⟨_,_,rfl,h,r⟩
 ·cases e
def gII(C:Int->Int->Prop)(f:Int->Int->D):DOp
 |.int i,.int j,Q=>C i j/\Q (f i j)
 |_,_,_=>False
def zgo(f:Int->Int->D):DOp
 |.int i,.int j,Q=>Q (f i j)
 |_,_,_=>False
theorem OpD.ii{f:Value->Value->Sem Value}{C:Int->Int->Prop}{g:Int->Int->Int}(h:OpR X f (rI C λi j=>.int (g i j))):OpD X f (gII C λi j=>.int (g i j)) :=
 OpD.of h λx y H a b Q ra rb q=>by
  cases a with
  |int i=>
   cases b with
   |int j=>cases ra.int;cases rb.int;exact⟨i,j,rfl,rfl,q.1,.int _,Same.refl _,.int,q.2⟩
   |_=>exact q.elim
  |_=>exact q.elim
theorem OpD.ii0{f:Value->Value->Sem Value}{g:Int->Int->Int}(h:OpR X f (rI0 λi j=>.int (g i j))):OpD X f (zgo λi j=>.int (g i j)) :=
 OpD.of h λx y H a b Q ra rb q=>by
  cases a with
  |int i=>
   cases b with
   |int j=>cases ra.int;cases rb.int;exact⟨i,j,rfl,rfl,.int _,Same.refl _,.int,q⟩
   |_=>exact q.elim
  |_=>exact q.elim
theorem OpD.ib0{f:Value->Value->Sem Value}{g:Int->Int->Bool}(h:OpR X f (rI0 λi j=>.bl (g i j))):OpD X f (zgo λi j=>.bool (g i j)) :=
 OpD.of h λx y H a b Q ra rb q=>by
  cases a with
  |int i=>
   cases b with
   |int j=>cases ra.int;cases rb.int;exact⟨i,j,rfl,rfl,.bool _,Same.refl _,.bl,q⟩
   |_=>exact q.elim
  |_=>exact q.elim
theorem zee:OpD X (binaryOp .Sub) (zgo λi j=>.int (i-j)):=OpD.ii0 zsm
theorem zjr:OpD X (binaryOp .Mod) (gII (λ_ j=>0<j) λi j=>.int (i % j)):=OpD.ii zhv
theorem zro:OpD X (binaryOp .Pow) (gII zsl λi j=>.int (i ^ j.toNat)):=OpD.ii zso
theorem zlb:OpD X (compareOp .Lt) (zgo λi j=>.bool (decide (i<j))):=OpD.ib0 zus
theorem zwg:OpD X (compareOp .Gt) (zgo λi j=>.bool (decide (j<i))):=OpD.ib0 zrk
theorem zwh:OpD X (compareOp .GtE) (zgo λi j=>.bool (decide (j<=i))):=OpD.ib0 zut
def zs9:D->D->(List D->Prop)->Prop
 |.list xs,.list ys,Q=>xs.length+ys.length<=sizeLine/\Q (xs++ys)
 |_,_,_=>False
theorem zp0:OpR X (binaryOp .Add) (λx y H Q=>∃l b xs zs,x=.ref l/\y=.ref b/\Rd H l (.lst xs)/\Rd H b (.lst zs)/\xs.length+zs.length<=sizeLine/\∀p,H p=none->Q (.ref p) (upd H p (.lst (xs++zs)))):=by
 intro pins s σ H x y v u Q I rx ry h;obtain⟨l,b,xs,zs,rfl,rfl,hH,hB,hz,q⟩:=h
 cases rx
 cases ry;obtain⟨z,its,n,r,e⟩:=hH.ok I.hok;obtain⟨z2,its2,n2,r2,e2⟩:=hB.ok I.hok;have hl:=r.length;have hl2:=r2.length;refine PySem.P.add_list e e2 ?_ (by rw[List.size_toArray,List.size_toArray];omega);have ea:its.toArray++its2.toArray=(its++its2).toArray:=by simp
 rw[ea];exact⟨.ref _,_,I.lnew (t':=s.toks) (r.append r2) (by rw[List.length_append];omega),rfl,q _ I.fresh⟩
theorem f_cat:OpF X (binaryOp .Add) zs9:=OpF.of zp0 λx y H a b Q ra rb q=>by
 cases a with
 |list xs=>
  cases b with
  |list ys=>
   obtain⟨l,vs,rfl,hl,r1⟩:=ra.list;obtain⟨m,ws,rfl,hm,r2⟩:=rb.list;exact⟨l,m,vs,ws,rfl,rfl,hl,hm,by rw[<-r1.length,<-r2.length];exact q.1,λp hp=>⟨p,_,xs++ys,rfl,zy hp _,hp,zj,(r1.append r2).same (zy hp _),q.2⟩⟩
  |_=>exact q.elim
 |_=>exact q.elim
def zta:D->D->(List D->Prop)->Prop
 |.list xs,.int k,Q=>-(2 ^ 63)<=k/\k<2 ^ 63/\xs.length * k.toNat<=sizeLine/\Q (List.replicate k.toNat xs).flatten
 |_,_,_=>False
theorem zp1:OpR X (binaryOp .Mult) (λx y H Q=>∃l k xs,x=.ref l/\y=.int k/\Rd H l (.lst xs)/\-(2 ^ 63)<=k/\k<2 ^ 63/\xs.length * k.toNat<=sizeLine /\
 ∀p,H p=none->Q (.ref p) (upd H p (.lst (List.replicate k.toNat xs).flatten))):=by
 intro pins s σ H x y v u Q I rx ry h;obtain⟨l,k,xs,rfl,rfl,hH,h1,h2,hz,q⟩:=h
 cases rx;obtain⟨t,rfl⟩:=ry;obtain⟨z,its,n,r,e⟩:=hH.ok I.hok;have hl:=r.length;have hlen:its.toArray.size * k.toNat<=sizeLine:=by rw[List.size_toArray,<-hl];exact hz
 have hcap:¬ its.toArray.size * k.toNat >(2 ^ 63-1) / 8:=by
  have:(sizeLine:Nat)<=(2 ^ 63-1) / 8:=by decide
  omega
 have hfit:¬ (!Builtin.List.listFitsIndex k)=true:=by
  rw[fitsIndex_both h1 h2];exact Bool.false_ne_true
 have hlong:¬ Builtin.List.listTooLong (its.toArray.size * k.toNat)=true:=by
  rw[zge hlen];exact Bool.false_ne_true
 have hnew:List.foldl (λx1 x2=>x1++x2) #[] (List.replicate (if its.toArray.isEmpty=true then 0 else k.toNat) its.toArray)=(List.replicate k.toNat its).flatten.toArray:=by
  have f0:∀m:Nat,List.foldl (λx1 x2=>x1++x2) #[] (List.replicate m its.toArray)=(List.replicate m its).flatten.toArray:=λm=>by
   have:=zeb its m [];rw[List.nil_append]at this;exact this
  rw[f0]
  cases its with
  |nil=>simp
  |cons a r'=>rw[if_neg (by simp)]
 refine wpAny_binaryOp_repeat_ref (T := "list") (U := "int") (by decide) ⟨_,e,rfl⟩ (λs'=>typeIs_int s' k t) noFill_list_mul F.fills_int_mul F.slot_int_rmul repeat_list F.slot_int_index.lookup
  (call_meets F.slot_int_rmul (typeIs_int s k t) F.entry_int_rmul (F.args_int_rmul_2 _ _) (int___rmul___int_list k t l its.toArray n)
   ⟨e,rfl,⟨_,e,rfl⟩,call_meets F.slot_list_mul ⟨_,e,rfl⟩ F.entry_list_mul (F.args_list_mul_2 _ _) (AutoListH.list___mul___list_int_3 l its.toArray n k t hfit hcap hlong) ⟨e,?_⟩⟩)
 rw[hnew];exact⟨.ref _,_,I.lnew (t':=s.toks) (r.rep k.toNat) (by rw[zps,Nat.mul_comm];exact hz),rfl,q _ I.fresh⟩
theorem f_rep:OpF X (binaryOp .Mult) zta:=OpF.of zp1 λx y H a b Q ra rb q=>by
 cases a with
 |list xs=>
  cases b with
  |int k=>
   obtain⟨l,vs,rfl,hl,r1⟩:=ra.list
   cases rb.int;obtain⟨h1,h2,h3,q⟩:=q;exact⟨l,k,vs,rfl,rfl,hl,h1,h2,by rw[<-r1.length];exact h3,λp hp=>⟨p,_,_,rfl,zy hp _,hp,zj,(r1.rep k.toNat).same (zy hp _),q⟩⟩
  |_=>exact q.elim
 |_=>exact q.elim
def ztb:DOp
 |.int i,.int j,Q=>Q (.int (i+j))
 |.str x,.str y,Q=>x.length+y.length<=sizeLine/\Q (.str (x++y))
 |.tuple xs,.tuple ys,Q=>xs.length+ys.length<=sizeLine/\Q (.tuple (xs++ys))
 |.list xs,.list ys,Q=>xs.length+ys.length<=sizeLine/\Q (.list (xs++ys))
 |_,_,_=>False
theorem zp2:OpR X (binaryOp .Add) (λx y H Q=>∃a b xs ys,x=.ref a/\y=.ref b/\SqT X.K H a xs/\SqT X.K H b ys/\xs.length+ys.length<=sizeLine/\∀p H',Same H H'->SqT X.K H' p (xs++ys)->Q (.ref p) H'):=by
 intro pins s σ H x y v u Q I rx ry h;obtain⟨a,b,xs,ys,rfl,rfl,ha,hb,hz,q⟩:=h
 cases rx
 cases ry;obtain⟨its,r1,p1,_⟩:=I.tuple ha;obtain⟨its2,r2,p2,_⟩:=I.tuple hb
 by_cases hx:xs = []
 ·obtain⟨⟨cls,dd,data,sl⟩,ho,hc,n,hd⟩:=id p1;obtain⟨⟨cls2,dd2,data2,sl2⟩,ho2,hc2,n2,hd2⟩:=id p2;simp only at hc hd hc2 hd2;subst hc hd hc2 hd2;have hv:its = []:=r1.nil_iff.mpr hx;refine concat_meets ⟨_,ho,rfl⟩ ⟨_,ho2,rfl⟩ noFill_tuple_add seq_tuple_add PySem.F.slot_tuple_add PySem.F.entry_tuple_add (PySem.F.args_tuple_add_2 _ _) (tuple_addW0 a b its.toArray its2.toArray n n2 dd dd2 sl sl2 (by simp[hv])) ⟨ho,ho2,?_⟩;exact⟨.ref b,H,I,rfl,q b H (Same.refl H) (by rw[hx,List.nil_append];exact hb)⟩
 ·refine HT.cat_tup p1 p2 (λz=>hx (r1.nil_iff.mp z)) (λz=>⟨.ref a,H,I,rfl,q a H (Same.refl H) (by rw[r2.nil_iff.mp z,List.append_nil];exact ha)⟩) (λz=>?_) (by rw[<-r1.length,<-r2.length];exact hz);refine⟨.ref s.heap.objs.size,_,I.laid (t':=s.toks) (o:=.tup (xs++ys)) (λb ob q=>Heap.get?_push_of_some _ q) (Nat.le_refl _) ?_,rfl,q _ _ (zy (I.hok.fresh (Nat.le_refl _)) _) (SqT.of zj)⟩;exact⟨by rw[List.length_append];exact hz,_,r1.append r2,TupD.new _ _⟩
theorem o_catT:OpD X (binaryOp .Add) (λa b Q=>match a,b with|.tuple xs,.tuple ys=>xs.length+ys.length<=sizeLine/\Q (.tuple (xs++ys))|_,_=>False):=OpD.of zp2 λx y H a b Q ra rb q=>by
 cases a with
 |tuple xs=>
  cases b with
  |tuple ys=>
   obtain⟨l,vs,rfl,hl,r1⟩:=ra.tuple;obtain⟨m,ws,rfl,hm,r2⟩:=rb.tuple;exact⟨l,m,vs,ws,rfl,rfl,hl,hm,by rw[<-r1.length,<-r2.length];exact q.1,λp H' sm e=>⟨_,sm,.tup e ((r1.append r2).same sm),q.2⟩⟩
  |_=>exact q.elim
 |_=>exact q.elim
theorem o_addS:OpD X (binaryOp .Add) (λa b Q=>match a,b with|.str x,.str y=>x.length+y.length<=sizeLine/\Q (.str (x++y))|_,_=>False):=OpD.of zhx λx y H a b Q ra rb q=>by
 cases a with
 |str xs=>
  cases b with
  |str ys=>cases ra.str;cases rb.str;exact⟨_,_,rfl,rfl,q.1,.str _,Same.refl _,.str,q.2⟩
  |_=>exact q.elim
 |_=>exact q.elim
theorem wf:OpD X (binaryOp .Add) ztb:=⟨λpins s σ H x y v u a b Q I rx ry ra rb q=>by
 cases a with
 |int i=>cases b with
  |int j=>exact(OpD.ii0 zmo).run pins s σ H x y v u _ _ Q I rx ry ra rb q
  |_=>exact q.elim
 |str i=>cases b with
  |str j=>exact o_addS.run pins s σ H x y v u _ _ Q I rx ry ra rb q
  |_=>exact q.elim
 |tuple i=>cases b with
  |tuple j=>exact o_catT.run pins s σ H x y v u _ _ Q I rx ry ra rb q
  |_=>exact q.elim
 |list i=>cases b with
  |list j=>exact f_cat.opD.run pins s σ H x y v u _ _ Q I rx ry ra rb q
  |_=>exact q.elim
 |_=>exact q.elim⟩
def ztc:DOp
 |.int i,.int j,Q=>CMul i j/\Q (.int (i * j))
 |.list xs,.int k,Q=>-(2 ^ 63)<=k/\k<2 ^ 63/\xs.length * k.toNat<=sizeLine/\Q (.list (List.replicate k.toNat xs).flatten)
 |_,_,_=>False
theorem zne:OpD X (binaryOp .Mult) ztc:=⟨λpins s σ H x y v u a b Q I rx ry ra rb q=>by
 cases a with
 |int i=>cases b with
  |int j=>exact(OpD.ii zsn).run pins s σ H x y v u _ _ Q I rx ry ra rb q
  |_=>exact q.elim
 |list i=>cases b with
  |int j=>exact f_rep.opD.run pins s σ H x y v u _ _ Q I rx ry ra rb q
  |_=>exact q.elim
 |_=>exact q.elim⟩
def gEq:DOp
 |.int i,.int j,Q=>Q (.bool (decide (i=j)))
 |.str i,.str j,Q=>Q (.bool (decide (i=j)))
 |.bool i,.bool j,Q=>Q (.bool (decide (i=j)))
 |a,b,Q=>Lay a/\Lay b/\Q (.bool (PyData.eqv a b))
def gNe:DOp
 |.int i,.int j,Q=>Q (.bool (!decide (i=j)))
 |.str i,.str j,Q=>Q (.bool (!decide (i=j)))
 |.bool i,.bool j,Q=>Q (.bool (!decide (i=j)))
 |a,b,Q=>Lay a/\Lay b/\Q (.bool (!PyData.eqv a b))
theorem zrp(hu:X.A.units+64<cLine):OpD X (compareOp .Eq) (λa b Q=>Lay a/\Lay b/\Q (.bool (PyData.eqv a b))):=⟨λpins s σ H x y v u a b Q I rx ry ra rb q=>by
 obtain⟨as,e1⟩:=ra.reads I rx q.1.can;obtain⟨bs,e2⟩:=rb.reads I ry q.2.1.can;exact eq_dataH e1 e2 q.1 q.2.1 hu ⟨.bl _,H,_,I,rfl,Same.refl _,.bl,q.2.2⟩⟩
theorem zrq(hu:X.A.units+64<cLine):OpD X (compareOp .NotEq) (λa b Q=>Lay a/\Lay b/\Q (.bool (!PyData.eqv a b))):=⟨λpins s σ H x y v u a b Q I rx ry ra rb q=>by
 obtain⟨as,e1⟩:=ra.reads I rx q.1.can;obtain⟨bs,e2⟩:=rb.reads I ry q.2.1.can;exact ne_dataH e1 e2 q.1 q.2.1 hu ⟨.bl _,H,_,I,rfl,Same.refl _,.bl,q.2.2⟩⟩
theorem zjs{f:D->D->Bool}(neg:Bool)(op:CmpOp)(h:OpR X (compareOp op) (λx y H Q=>zsp x y=true/\Q (.bl (if neg then !decide (x=y) else decide (x=y))) H)):
  OpD X (compareOp op) (λa b Q=>match a,b with
   |.int i,.int j=>Q (.bool (if neg then !decide (i=j) else decide (i=j)))
   |.str i,.str j=>Q (.bool (if neg then !decide (i=j) else decide (i=j)))
   |.bool i,.bool j=>Q (.bool (if neg then !decide (i=j) else decide (i=j)))
   |_,_=>False):=OpD.of h λx y H a b Q ra rb q=>by
 cases a with
 |int i=>cases b with
  |int j=>
   cases ra.int;cases rb.int;have e:decide (V.int i=V.int j)=decide (i=j):=by rw[Bool.eq_iff_iff];simp
   rw[e];exact⟨rfl,.bool _,Same.refl _,.bl,q⟩
  |_=>exact q.elim
 |str i=>cases b with
  |str j=>
   cases ra.str;cases rb.str;have e:decide (V.str i=V.str j)=decide (i=j):=by rw[Bool.eq_iff_iff];simp
   rw[e];exact⟨rfl,.bool _,Same.refl _,.bl,q⟩
  |_=>exact q.elim
 |bool i=>cases b with
  |bool j=>
   cases ra.bool;cases rb.bool;have e:decide (V.bl i=V.bl j)=decide (i=j):=by rw[Bool.eq_iff_iff];simp
   rw[e];exact⟨rfl,.bool _,Same.refl _,.bl,q⟩
  |_=>exact q.elim
 |_=>exact q.elim
theorem znf{k:Nat}(hr:Room k X.A):OpD X (compareOp .Eq) gEq:=⟨λpins s σ H x y v u a b Q I rx ry ra rb q=>by
 have G:=(zrp (X:=X) hr.units).run pins s σ H x y v u a b Q I rx ry ra rb;have S:=(zjs (X:=X) (f:=λ_ _=>true) false .Eq zmr).run pins s σ H x y v u a b Q I rx ry ra rb
 cases a <;> cases b <;> first|exact S q|exact G q⟩
theorem zgp{k:Nat}(hr:Room k X.A):OpD X (compareOp .NotEq) gNe:=⟨λpins s σ H x y v u a b Q I rx ry ra rb q=>by
 have G:=(zrq (X:=X) hr.units).run pins s σ H x y v u a b Q I rx ry ra rb;have S:=(zjs (X:=X) (f:=λ_ _=>true) true .NotEq zrj).run pins s σ H x y v u a b Q I rx ry ra rb
 cases a <;> cases b <;> first|exact S q|exact G q⟩
def zcm:D->Bool
 |.none=>true
 |_=>false
def ztd:DOp:=λa b Q=>match b with
 |.none=>Q (.bool (zcm a))
 |_=>False
theorem zib{K:PySem.W.Frag}{H:Hp}{d:D}{v:V}(h:RepT K H d v):decide (v=.non)=zcm d:=by
 rcases h with h |⟨xs,rfl,a,vs,rfl,_⟩
 ·cases h <;> rfl
 ·rfl
theorem zvd:OpD X (compareOp .Is) ztd:=OpD.of zsq λx y H a b Q ra rb q=>by
 cases b with
 |none=>cases rb.none;refine⟨rfl,.bool (zcm a),Same.refl _,?_,q⟩;rw[zib ra];exact .bl
 |_=>exact q.elim
def inD(x:D)(ys:List D):Bool:=ys.any λy=>PyData.eqv y x
def gIn(neg:Bool):DOp:=λa b Q=>match b with
 |.list ys=>Lay a/\Lay (.list ys)/\Q (.bool (if neg then !inD a ys else inD a ys))
 |.tuple ys=>Lay a/\Lay (.tuple ys)/\Q (.bool (if neg then !inD a ys else inD a ys))
 |_=>False
theorem Lay.all{xs:List D}(h:Lay (.list xs)):PyData.canLayAll0 xs=true:=by simpa[PyData.canLay0]using h.can
theorem Lay.allT{xs:List D}(h:Lay (.tuple xs)):PyData.canLayAll0 xs=true:=by simpa[PyData.canLay0]using h.can
theorem zjt{k:Nat}(hr:Room k X.A):OpD X (compareOp .NotIn) (gIn true):=⟨λpins s σ H x y v u a b Q I rx ry ra rb q=>by
 have hu:=hr.un
 cases b with
 |list ys=>
  obtain⟨as,e1⟩:=ra.reads I rx q.1.can;obtain⟨bs,e2⟩:=rb.reads I ry q.2.1.can;have:=q.1.deep;exact SeqAt.notIn_list_reads e2 e1 q.2.1.all q.1.can (by omega) ⟨.bl _,H,_,I,rfl,Same.refl _,.bl,q.2.2⟩
 |tuple ys=>
  obtain⟨as,e1⟩:=ra.reads I rx q.1.can;obtain⟨bs,e2⟩:=rb.reads I ry q.2.1.can;have:=q.1.deep;exact SeqAt.notIn_tuple_reads e2 e1 q.2.1.allT q.1.can (by omega) ⟨.bl _,H,_,I,rfl,Same.refl _,.bl,q.2.2⟩
 |_=>exact q.elim⟩
end
structure CallD(X:Cx)(f:Value)(g:List D->(D->Prop)->Prop):Prop where
 run:∀(pins:List (Addr×Obj)) (s:Shared) (σ:St) (H:Hp) (vs:List V) (us:List Value) (ds:List D) (Q:D->Prop),Inv X pins σ H s->Vals vs us->RepTs X.K H ds vs->g ds Q->wpAny (model X.prog X.w) X.A (call f us) (DEnd X pins σ H Q) X.xe s
structure CallF(X:Cx)(f:Value)(g:List D->(List D->Prop)->Prop):Prop where
 run:∀(pins:List (Addr×Obj)) (s:Shared) (σ:St) (H:Hp) (vs:List V) (us:List Value) (ds:List D) (Q:List D->Prop),Inv X pins σ H s->Vals vs us->RepTs X.K H ds vs->g ds Q->wpAny (model X.prog X.w) X.A (call f us) (zgk X pins σ H Q) X.xe s
def dCB(g:List D->(D->Prop)->Prop)(t:DTF):DTE:=λσ Q=>t σ λds=>g ds Q
def dCF(g:List D->(List D->Prop)->Prop)(t:DTF):DTF:=λσ Q=>t σ λds=>g ds Q
section
variable {X:Cx}{f:Value}{g:List D->(D->Prop)->Prop}{gf:List D->(List D->Prop)->Prop}{e:Expr}{es:List Expr}{t:DTF}{x:Str}{p pos:Pos}
theorem CallD.of{r:List V->Hp->VK->Prop}(h:w6 X f r)(k:∀vs H ds Q,RepTs X.K H ds vs->g ds Q->r vs H (λv H'=>∃d,Same H H'/\Rep X.K H' d v/\Q d)):CallD X f g :=
 ⟨λpins s σ H vs us ds Q I rv rd q=>thn (h pins s σ H vs us _ I rv (k vs H ds Q rd q)) λw s' zq93=>by obtain⟨z,H',I',rz,d,sm,rp,qd⟩:=zq93;exact⟨z,H',d,I',rz,sm,rp,qd⟩⟩
theorem CallF.of{r:List V->Hp->VK->Prop}(h:w6 X f r)(k:∀vs H ds Q,RepTs X.K H ds vs->gf ds Q->r vs H (λv H'=>∃p vs xs,v=.ref p/\Same H H'/\H p=none/\H' p=some (.lst vs)/\Reps X.K H' xs vs/\Q xs)):CallF X f gf :=
 ⟨λpins s σ H vs us ds Q I rv rd q=>thn (h pins s σ H vs us _ I rv (k vs H ds Q rd q)) λw s' zq93=>by obtain⟨z,H',I',rz,p,ws,xs,ez,sm,n,e,rp,qd⟩:=zq93;exact⟨p,H',ws,xs,by subst ez;exact rz,I',sm,n,e,rp,qd⟩⟩
theorem CallD.cr(h:CallD X f g):w6 X f (λvs H Q=>∃ds QD,RepTs X.K H ds vs/\g ds QD/\∀v H' d,Same H H'->Rep X.K H' d v->QD d->Q v H') :=
 λpins s σ H vs us Q I rv zq2=>by obtain⟨ds,QD,rd,q,k⟩:=zq2;exact thn (h.run pins s σ H vs us ds QD I rv rd q) λw s' zq0=>by obtain⟨z,H',d,I',rz,sm,rp,qd⟩:=zq0;exact⟨z,H',I',rz,k z H' d sm rp qd⟩
theorem CallF.cr(h:CallF X f gf):w6 X f (λvs H Q=>∃ds QD,RepTs X.K H ds vs/\gf ds QD/\∀a H' ws xs,Same H H'->H a=none->H' a=some (.lst ws)->Reps X.K H' xs ws->QD xs->Q (.ref a) H') :=
 λpins s σ H vs us Q I rv zq2=>by obtain⟨ds,QD,rd,q,k⟩:=zq2;exact thn (h.run pins s σ H vs us ds QD I rv rd q) λw s' zq0=>by obtain⟨a,H',ws,xs,ew,I',sm,n,e,rp,qd⟩:=zq0;exact⟨.ref a,H',I',ew,k a H' ws xs sm n e rp qd⟩
theorem z5{id:String}(hc:CallD X (.builtin id) g)(hg:Gl X x)(hm:X.mg x=none)(hv:bootBuiltins x=some (.builtin id))(ha:DAv X (e::es) t)(hn:x ≠ "__name__" := by decide)(hdb:(x ==("__debug__" : Str))=false:=by decide)
  (he:starEach (e::es) X.env=(false,eval e X.env)::starEach es X.env:=by rfl) (hpl:(backTo pos (starEach es X.env)).any (·.1)=false:=by rfl):DE X (.Call (.Name x p) (e::es) [] pos) (dCB g t) :=
 DE.of (qe hc.cr hg hm hv ha.pa hn hdb he hpl) λσ H H₀ σD QD ok q=>⟨H₀,σD,_,ok,q,λvs H1 ds s1 r1 q1=>⟨ds,_,r1,q1,λv H' d s2 rp qd=>⟨d,s1.trans s2,rp,qd⟩⟩⟩
theorem zcn{id:String}(hc:CallF X (.builtin id) gf)(hg:Gl X x)(hm:X.mg x=none)(hv:bootBuiltins x=some (.builtin id))(ha:DAv X (e::es) t)(hn:x ≠ "__name__" := by decide)(hdb:(x ==("__debug__" : Str))=false:=by decide)
  (he:starEach (e::es) X.env=(false,eval e X.env)::starEach es X.env:=by rfl) (hpl:(backTo pos (starEach es X.env)).any (·.1)=false:=by rfl):DF X (.Call (.Name x p) (e::es) [] pos) (dCF gf t) :=
 DF.of (qe hc.cr hg hm hv ha.pa hn hdb he hpl) λσ H H₀ σD QD ok q=>⟨H₀,σD,_,ok,q,λvs H1 ds s1 r1 q1=>⟨ds,_,r1,q1,λa H' ws xs s2 n e rp qd=>⟨a,ws,xs,rfl,s1.trans s2,s1.free n,e,rp,qd⟩⟩⟩
theorem wx{id:String}(hc:CallD X (.type id) g)(hg:Gl X x)(hm:X.mg x=none)(hv:bootBuiltins x=some (.type id))(ha:DAv X (e::es) t)(hn:x ≠ "__name__" := by decide)(hdb:(x ==("__debug__" : Str))=false:=by decide)
  (he:starEach (e::es) X.env=(false,eval e X.env)::starEach es X.env:=by rfl) (hpl:(backTo pos (starEach es X.env)).any (·.1)=false:=by rfl):DE X (.Call (.Name x p) (e::es) [] pos) (dCB g t) :=
 DE.of (zd9 hc.cr hg hm hv ha.pa hn hdb he hpl) λσ H H₀ σD QD ok q=>⟨H₀,σD,_,ok,q,λvs H1 ds s1 r1 q1=>⟨ds,_,r1,q1,λv H' d s2 rp qd=>⟨d,s1.trans s2,rp,qd⟩⟩⟩
theorem zef{id:String}(hc:CallF X (.type id) gf)(hg:Gl X x)(hm:X.mg x=none)(hv:bootBuiltins x=some (.type id))(ha:DAv X (e::es) t)(hn:x ≠ "__name__" := by decide)(hdb:(x ==("__debug__" : Str))=false:=by decide)
  (he:starEach (e::es) X.env=(false,eval e X.env)::starEach es X.env:=by rfl) (hpl:(backTo pos (starEach es X.env)).any (·.1)=false:=by rfl):DF X (.Call (.Name x p) (e::es) [] pos) (dCF gf t) :=
 DF.of (zd9 hc.cr hg hm hv ha.pa hn hdb he hpl) λσ H H₀ σD QD ok q=>⟨H₀,σD,_,ok,q,λvs H1 ds s1 r1 q1=>⟨ds,_,r1,q1,λa H' ws xs s2 n e rp qd=>⟨a,ws,xs,rfl,s1.trans s2,s1.free n,e,rp,qd⟩⟩⟩
theorem RepTs.one{K:PySem.W.Frag}{H:Hp}{d:D}{vs:List V}(h:RepTs K H [d] vs):∃v,vs = [v]/\RepT K H d v:=by
 cases h with
 |cons r t=>cases t;exact⟨_,rfl,r⟩
theorem RepTs.two{K:PySem.W.Frag}{H:Hp}{d e:D}{vs:List V}(h:RepTs K H [d,e] vs):∃v w,vs = [v,w]/\RepT K H d v/\RepT K H e w:=by
 cases h with
 |cons r t=>cases t with
  |cons r2 t=>cases t;exact⟨_,_,rfl,r,r2⟩
def zte:List D->(D->Prop)->Prop
 |[.str x],Q=>x.length<=sizeLine/\Q (.int x.length)
 |[.list xs],Q=>Q (.int xs.length)
 |[.tuple xs],Q=>Q (.int xs.length)
 |_,_=>False
theorem vf:CallD X (.builtin "len") zte:=CallD.of zmt λvs H ds Q rd q=>by
 match ds,q,rd with
 |[.str x],q,rd=>
  obtain⟨v,rfl,r⟩:=rd.one
  cases r.str;exact⟨_,x.length,rfl,⟨q.1,rfl⟩,_,Same.refl _,.int,q.2⟩
 |[.list xs],q,rd=>
  obtain⟨v,rfl,r⟩:=rd.one;obtain⟨a,vs,rfl,h,r⟩:=r.list.sq;exact⟨_,xs.length,rfl,.inl ⟨vs,h,r.length⟩,_,Same.refl _,.int,q⟩
 |[.tuple xs],q,rd=>
  obtain⟨v,rfl,r⟩:=rd.one;obtain⟨a,vs,rfl,h,r⟩:=r.tuple;exact⟨_,xs.length,rfl,.inr ⟨vs,h,r.length⟩,_,Same.refl _,.int,q⟩
def ztf:List D->(D->Prop)->Prop
 |[.int i,.int j],Q=>Q (.int (max i j))
 |_,_=>False
theorem zng(hc:X.calm=true):CallD X (.builtin "max") ztf:=CallD.of (zk0 hc) λvs H ds Q rd q=>by
 match ds,q,rd with
 |[.int i,.int j],q,rd=>
  obtain⟨v,w,rfl,r1,r2⟩:=rd.two
  cases r1.int
  cases r2.int;refine⟨i,j,rfl,_,Same.refl _,.int,?_⟩;have e:(if j > i then j else i)=max i j:=by split <;> omega
  rw[e];exact q
def ztg:List D->(D->Prop)->Prop
 |[.int i],Q=>Q (.int i)
 |[.bool b],Q=>Q (.int (if b then 1 else 0))
 |_,_=>False
theorem zve:CallD X (.type "int") ztg:=CallD.of zk1 λvs H ds Q rd q=>by
 match ds,q,rd with
 |[.int i],q,rd=>
  obtain⟨v,rfl,r⟩:=rd.one
  cases r.int;exact .inl ⟨i,rfl,_,Same.refl _,.int,q⟩
 |[.bool i],q,rd=>
  obtain⟨v,rfl,r⟩:=rd.one
  cases r.bool;exact .inr ⟨i,rfl,_,Same.refl _,.int,q⟩
def zth:List D->(D->Prop)->Prop
 |[.int i],Q=>i.natAbs.log2<1920/\Q (.str (toString i))
 |_,_=>False
theorem zvf:CallD X (.type "str") zth:=CallD.of ze5 λvs H ds Q rd q=>by
 match ds,q,rd with
 |[.int i],q,rd=>
  obtain⟨v,rfl,r⟩:=rd.one
  cases r.int;exact⟨i,rfl,q.1,_,Same.refl _,.str,q.2⟩
def znh:List D->(List D->Prop)->Prop
 |[.list xs],Q=>Q xs
 |[.tuple xs],Q=>Q xs
 |_,_=>False
theorem zni:CallF X (.type "list") znh:=CallF.of zfa λvs H ds Q rd q=>by
 match ds,q,rd with
 |[.list xs],q,rd=>
  obtain⟨v,rfl,r⟩:=rd.one;obtain⟨a,vs,rfl,h,r⟩:=r.list.sq;exact⟨a,vs,rfl,.inl h,λl hl=>⟨l,vs,xs,rfl,zy hl _,hl,zj,r.same (zy hl _),q⟩⟩
 |[.tuple xs],q,rd=>
  obtain⟨v,rfl,r⟩:=rd.one;obtain⟨a,vs,rfl,h,r⟩:=r.tuple;exact⟨a,vs,rfl,.inr h,λl hl=>⟨l,vs,xs,rfl,zy hl _,hl,zj,r.same (zy hl _),q⟩⟩
def zic:List D->(D->Prop)->Prop
 |[.list xs],Q=>Q (.tuple xs)
 |[.tuple xs],Q=>Q (.tuple xs)
 |_,_=>False
theorem ki:CallD X (.type "tuple") zic:=CallD.of zdm λvs H ds Q rd q=>by
 match ds,q,rd with
 |[.list xs],q,rd=>
  obtain⟨v,rfl,r⟩:=rd.one;obtain⟨a,vs,rfl,h,r⟩:=r.list.sq;exact⟨a,vs,rfl,.inl ⟨h,λl hl=>⟨_,zy hl _,.tup (SqT.of zj) (r.same (zy hl _)),q⟩⟩⟩
 |[.tuple xs],q,rd=>
  obtain⟨v,rfl,r⟩:=rd.one;obtain⟨a,vs,rfl,h,r⟩:=r.tuple;exact⟨a,vs,rfl,.inr ⟨h,_,Same.refl _,.tup h r,q⟩⟩
def j8:List D->Option (List Int)
 |[]=>some []
 |.int i::r=>(j8 r).map (i :: ·)
 |_::_=>none
def ve:List D->Option (List Bool)
 |[]=>some []
 |.bool i::r=>(ve r).map (i :: ·)
 |_::_=>none
theorem vr(ns:List Int):j8 (ns.map PyData.int)=some ns:=by
 induction ns with
 |nil=>rfl
 |cons n ns ih=>simp[j8,ih]
theorem zan(ns:List Bool):ve (ns.map PyData.bool)=some ns:=by
 induction ns with
 |nil=>rfl
 |cons n ns ih=>simp[ve,ih]
theorem jy{K:PySem.W.Frag}{H:Hp}:∀{xs:List D}{vs:List V}{ns:List Int},Reps K H xs vs->j8 xs=some ns->vs=ns.map V.int
 |[],_,ns,r,e=>by cases r;simp[j8]at e;subst e;rfl
 |x::xs,_,ns,r,e=>by
  cases r with
  |cons r t=>
   cases x with
   |int i=>
    simp only[j8,Option.map_eq_some_iff]at e;obtain⟨ms,e1,rfl⟩:=e
    cases r;rw[jy t e1];rfl
   |_=>simp[j8]at e
theorem kj{K:PySem.W.Frag}{H:Hp}:∀{xs:List D}{vs:List V}{ns:List Bool},Reps K H xs vs->ve xs=some ns->vs=ns.map V.bl
 |[],_,ns,r,e=>by cases r;simp[ve]at e;subst e;rfl
 |x::xs,_,ns,r,e=>by
  cases r with
  |cons r t=>
   cases x with
   |bool i=>
    simp only[ve,Option.map_eq_some_iff]at e;obtain⟨ms,e1,rfl⟩:=e
    cases r;rw[kj t e1];rfl
   |_=>simp[ve]at e
def zti:List D->(D->Prop)->Prop
 |[.list xs],Q=>∃ns,j8 xs=some ns/\Q (.int ns.sum)
 |_,_=>False
theorem zju(hc:X.calm=true):CallD X (.builtin "sum") zti:=CallD.of (zm0 hc) λvs H ds Q rd q=>by
 match ds,q,rd with
 |[.list xs],q,rd=>
  obtain⟨v,rfl,r⟩:=rd.one;obtain⟨a,vs,rfl,h,r⟩:=r.list.sq;obtain⟨ns,e,q⟩:=q
  cases jy r e;exact⟨a,ns,rfl,h,_,Same.refl _,.int,q⟩
def ztj:List D->(D->Prop)->Prop
 |[.list xs],Q=>∃ns,ve xs=some ns/\Q (.bool (ns.all id))
 |_,_=>False
theorem znj(hc:X.calm=true):CallD X (.builtin "all") ztj:=CallD.of (zm2 hc) λvs H ds Q rd q=>by
 match ds,q,rd with
 |[.list xs],q,rd=>
  obtain⟨v,rfl,r⟩:=rd.one;obtain⟨a,vs,rfl,h,r⟩:=r.list.sq;obtain⟨ns,e,q⟩:=q
  cases kj r e;exact⟨a,ns,rfl,h,_,Same.refl _,.bl,q⟩
def isD:String->D->Bool
 | "int",.int _=>true
 | "int",.bool _=>true
 | "bool",.bool _=>true
 | "str",.str _=>true
 | "list",.list _=>true
 | "tuple",.tuple _=>true
 | "dict",.dict _=>true
 |_,_=>false
def tyD:D->String
 |.none=> "NoneType"
 |.bool _=> "bool"
 |.int _=> "int"
 |.str _=> "str"
 |.list _=> "list"
 |.tuple _=> "tuple"
 |.dict _=> "dict"
theorem zid{pins:List (Addr×Obj)}{σ:St}{H:Hp}{s:Shared}{A:Around}{E:Value->Shared->Prop}{Q:Value->Shared->Prop}{c:Value}{b:Bool}{d:D}{v:V}{u:Value}(I:Inv X pins σ H s)(rp:RepT X.K H d v)(ru:RelV v u)(e:PySem.W.kitOne X.K (.type (tyD d)) c=some b)
  (h:∀tk,Q (.bool b) { s with toks:=tk }):wpAny (model X.prog X.w) A (call (.builtin "isinstance") [u,c]) Q E s:=by
 rcases rp with rp |⟨xs,rfl,a,vs,rfl,hr,_⟩
 ·cases rp with
  |non=>cases ru;exact PySem.W.kia_one PySem.W.kitx_none I.kIn True.intro e (λz=>nomatch z) h
  |bl=>cases ru;exact PySem.W.kia_one PySem.W.kitx_bool I.kIn True.intro e (λz=>nomatch z) h
  |int=>obtain⟨t,rfl⟩:=ru;exact PySem.W.kia_one PySem.W.kitx_int I.kIn True.intro e (λz=>nomatch z) h
  |str=>obtain⟨t,rfl⟩:=ru;exact PySem.W.kia_one PySem.W.kitx_str I.kIn True.intro e (λz=>nomatch z) h
  |tup q r=>
   cases ru;obtain⟨its,_,⟨o,h1,h2,_⟩,_⟩:=I.tuple q;exact PySem.W.kia_one PySem.W.kitx_tuple I.kIn ⟨o,h1,h2⟩ e (λz=>nomatch z) h
  |lst q r=>
   cases ru;obtain⟨_,_,_,n,_,h1⟩:=I.hok _ _ q;exact PySem.W.kia_one PySem.W.kitx_list I.kIn ⟨_,h1,rfl⟩ e (λz=>nomatch z) h
  |dic q r=>
   cases ru;obtain⟨_,_,_,vs,_,o,es,ep,h1,h2,_⟩:=I.hok _ _ q;exact PySem.W.kia_one PySem.W.kitx_dict I.kIn ⟨o,h1,h2.1⟩ e (λz=>nomatch z) h
 ·cases ru;obtain⟨_,_,n,_,h1⟩:=hr.ok I.hok;exact PySem.W.kia_one PySem.W.kitx_list I.kIn ⟨_,h1,rfl⟩ e (λz=>nomatch z) h
def dIs(n:String)(t:DTE):DTE:=λσ Q=>t σ λd=>Q (.bool (isD n d))
theorem zbi{n:String}{ta:DTE}{x2:Str}{p2:Pos}(hk:∀d:D,PySem.W.kitOne X.K (.type (tyD d)) (.type n)=some (isD n d))(hg:Gl X "isinstance")(hm:X.mg "isinstance" = none)(hv:bootBuiltins "isinstance" = some (.builtin "isinstance"))(ha:DV X e ta)
  (hg2:Gl X x2) (hm2:X.mg x2=none) (hv2:bootBuiltins x2=some (.type n)) (hn2:x2 ≠ "__name__" := by decide) (hdb2:(x2 ==("__debug__" : Str))=false:=by decide)
  (he:starEach (e :: [.Name x2 p2]) X.env=(false,eval e X.env)::starEach [.Name x2 p2] X.env:=by rfl) (he2:starEach [.Name x2 p2] X.env=(false,eval (.Name x2 p2) X.env)::starEach [] X.env:=by rfl) (hpl:(backTo pos (starEach [.Name x2 p2] X.env)).any (·.1)=false:=by rfl):DE X (.Call (.Name "isinstance" p) [e,.Name x2 p2] [] pos) (dIs n ta):=by
 have hc:w6 X (.builtin "isinstance") (λvs H Q=>∃d v,vs = [v,.ty n]/\RepT X.K H d v/\Q (.bl (isD n d)) H):=λpins s σ H xs us Q I rv zq28=>by
  obtain⟨d,v,e,r,q⟩:=zq28;subst e;obtain⟨u,w,rfl,r1,r2⟩:=rv.two
  cases r2;exact zid I r r1 (hk d) λtk=>⟨.bl (isD n d),H,I.tok tk,rfl,q⟩
 refine DE.of (qe hc hg hm hv (yo ha.pe (yo (vm (v:=.ty n) hg2 hm2 hv2 rfl hn2 hdb2) wb he2) he) (by decide) (by decide) he hpl) λσ H H₀ σD QD ok q=>?_;exact⟨H₀,σD,_,ok,q,λv H1 d s1 r1 q1=>⟨d,v,rfl,r1,_,s1,.bl,q1⟩⟩
theorem zrr{K:PySem.W.Frag}(d:D):PySem.W.kitOne K (.type (tyD d)) (.type "int")=some (isD "int" d):=by cases d <;> rfl
theorem znk{K:PySem.W.Frag}(d:D):PySem.W.kitOne K (.type (tyD d)) (.type "bool")=some (isD "bool" d):=by cases d <;> rfl
theorem zjv{K:PySem.W.Frag}(d:D):PySem.W.kitOne K (.type (tyD d)) (.type "tuple")=some (isD "tuple" d):=by cases d <;> rfl
variable {a b:Expr}{ta tb:DTE}
def gIx:DOp
 |.list xs,.int i,Q=>∃d,atI xs i=some d/\Q d
 |.tuple xs,.int i,Q=>∃d,atI xs i=some d/\Q d
 |.str x,.int i,Q=>x.length<=sizeLine/\∃c,atI x.cps.toList i=some c/\Q (.str ⟨#[c]⟩)
 |_,_,_=>False
theorem zjw{K:PySem.W.Frag}{H:Hp}{xs:List D}{vs:List V}{i:Int}{d:D}(r:Reps K H xs vs)(h:atI xs i=some d):∃v,atI vs i=some v/\Rep K H d v:=by
 unfold atI at h ⊢;rw[<-r.length]
 cases e:ixN xs.length i with
 |none=>rw[e]at h;cases h
 |some j=>
  rw[e]at h;exact r.get h
theorem wg(ha:DV X a ta)(hb:DE X b tb)(hs:ze7 b):DE X (.Subscript a b pos) (dOp gIx ta tb) :=
 DE.of (zaw zsw ha.pe hb.pe hs) λσ H H₀ σD QD ok q=>⟨H₀,σD,_,ok,q,λv H1 d s1 r1 q1=>⟨H₀,σD,_,ok.after s1,q1,λw H2 d2 s2 r2 q2=>by
  have r1:=r1.same s2;have sm:=s1.trans s2
  cases d2 with
  |int i=>
   cases r2
   cases d with
   |list xs=>
    obtain⟨l,vs,rfl,hl,r⟩:=r1.list.sq;obtain⟨d,e,q⟩:=q2;obtain⟨x,e1,e2⟩:=zjw r e;exact .inl ⟨l,vs,i,x,rfl,rfl,hl,e1,d,sm,e2,q⟩
   |tuple xs=>
    obtain⟨l,vs,rfl,hl,r⟩:=r1.tuple;obtain⟨d,e,q⟩:=q2;obtain⟨x,e1,e2⟩:=zjw r e;exact .inr (.inl ⟨l,vs,i,x,rfl,rfl,hl,e1,d,sm,e2,q⟩)
   |str x=>
    cases r1.str;obtain⟨hz,c,e,q⟩:=q2;exact .inr (.inr ⟨x,i,c,rfl,rfl,hz,e,_,sm,.str,q⟩)
   |_=>exact q2.elim
  |_=>cases d <;> exact q2.elim⟩⟩
abbrev DTO:=DSt->(Option Int->Prop)->Prop
structure DO(X:Cx)(e:Option Expr)(t:DTO):Prop where
 po:PO X e (λσ H Q=>∃H₀ σD QD,DOk X.K H₀ H σD σ/\t σD QD/\∀o H',Same H H'->QD o->Q o H')
def zfe:DTO:=λ_ Q=>Q none
def znl(t:DTE):DTO:=λσ Q=>t σ λd=>match d with
 |.int i=>Q (some i)
 |_=>False
theorem vy:DO X none zfe:=⟨λpins s σ H Q I zq40=>by obtain⟨H₀,σD,QD,ok,q,k⟩:=zq40;exact zpo pins s σ H Q I (k none H (Same.refl _) q)⟩
theorem vc(h:DE X a ta):DO X (some a) (znl ta):=⟨λpins s σ H Q I ⟨H₀,σD,QD,ok,q,k⟩=>zpp h.pe pins s σ H Q I ⟨H₀,σD,_,ok,q,λv H1 d s1 r1 q1=>by
 cases d with
 |int i=>cases r1;exact⟨i,rfl,k _ _ s1 q1⟩
 |_=>exact q1.elim⟩⟩
def y9(xs:List D)(lo hi:Option Int):List D:=(xs.drop (HT.sIx xs.length 0 lo)).take (HT.sIx xs.length xs.length hi-HT.sIx xs.length 0 lo)
theorem Reps.cut{K:PySem.W.Frag}{H:Hp}{xs:List D}{vs:List V}(r:Reps K H xs vs)(lo hi:Option Int):Reps K H (y9 xs lo hi) (zdk vs lo hi):=by
 unfold y9 zdk;rw[<-r.length];exact(r.drop _).take _
variable {lo hi:Option Expr}{tl th:DTO}{p2:Pos}
theorem zp3:SlR X (λx lo hi H Q=>∃a xs,x=.ref a/\SqT X.K H a xs/\∀p H',Same H H'->SqT X.K H' p (zdk xs lo hi)->Q (.ref p) H'):=by
 intro pins s σ H x v vl vu lo hi sl Q I rx hs pl pu h;obtain⟨a,xs,rfl,hx,q⟩:=h
 by_cases hw:HT.sIx xs.length 0 lo=0/\HT.sIx xs.length xs.length hi=xs.length
 ·cases rx;obtain⟨its,r,ht,hz⟩:=I.tuple hx;have hlen:its.toArray.size=xs.length:=by rw[List.size_toArray];exact r.length.symm
  refine⟨"tuple",_,PyProof.Rows.slot_tuple_getitem.lookup,ht.typeIs,zk9 ht hs pl pu (by rw[hlen];exact hw.1) (by rw[hlen];exact hw.2) ⟨.ref a,H,I,rfl,q a H (Same.refl H) ?_⟩⟩;unfold zdk;rw[hw.1,hw.2,List.drop_zero,Nat.sub_zero,List.take_length];exact hx
 ·exact zsu pins s σ H (.ref a) v vl vu lo hi sl Q I rx hs pl pu ⟨a,xs,rfl,hx,hw,λp hp=>q p _ (zy hp _) (SqT.of zj)⟩
def dSl(te:DTE)(tl th:DTO):DTE:=λσ Q=>te σ λd=>tl σ λl=>th σ λu=>match d with
 |.list xs=>Q (.list (y9 xs l u))
 |.tuple xs=>Q (.tuple (y9 xs l u))
 |_=>False
theorem va(he:DV X e ta)(hl:DO X lo tl)(hu:DO X hi th):DE X (.Subscript e (.Slice lo hi none p2) pos) (dSl ta tl th):=⟨λpins s σ H H₀ σD Q I ok q=>by
 refine thn (zgc (SlR.or zjn zp3) he.pe hl.po hu.po pins s σ H (λv H'=>(∃d,Same H H'/\Rep X.K H' d v/\Q d)\/∃p vs xs,v=.ref p/\Same H H'/\H p=none/\H' p=some (.lst vs)/\Reps X.K H' xs vs/\Q (.list xs)) I ?_) λu s' ⟨v,H',I',r,z⟩=>?_
 ·exact⟨H₀,σD,_,ok,q,λv H1 d s1 r1 q1=>⟨H₀,σD,_,ok.after s1,q1,λl H2 s2 q2=>⟨H₀,σD,_,(ok.after s1).after s2,q2,λu H3 s3 q3=>by
   cases d with
   |list xs=>
    obtain⟨b,vs,rfl,hb,r⟩:=((r1.same s2).same s3).list.sq;exact .inl ⟨b,vs,rfl,hb,λp hp=>.inr ⟨p,_,_,rfl,((s1.trans s2).trans s3).trans (zy hp _),((s1.trans s2).trans s3).free hp,zj,(r.cut l u).same (zy hp _),q3⟩⟩
   |tuple xs=>
    obtain⟨b,vs,rfl,hb,r⟩:=((r1.same s2).same s3).tuple;exact .inr ⟨b,vs,rfl,hb,λp H4 s4 e4=>.inl ⟨_,((s1.trans s2).trans s3).trans s4,.tup e4 ((r.cut l u).same s4),q3⟩⟩
   |_=>exact q3.elim⟩⟩⟩
 ·rcases z with⟨d,sm,rp,qd⟩ |⟨p,vs,xs,rfl,sm,n,e,rp,qd⟩
  ·exact⟨v,H',d,I',r,sm,rp,qd⟩
  ·obtain⟨H'',J,sm',r'⟩:=je I' sm n e rp;exact⟨.ref p,H'',.list xs,J,r,sm',r',qd⟩⟩
def zff(i:Nat)(tl th:DTO):DTF:=λσ Q=>match σ[i]? with
 |some (some (.scr ns))=>tl σ λl=>th σ λu=>Q ((y9 (ns.map PyData.int) l u))
 |_=>False
theorem ztk(i:Nat){x:Str}{pos':Pos}(hl:DO X lo tl)(hu:DO X hi th)(hN:X.N[i]?=some x:=by rfl)(hv:Vis X.env.scope x:=by first|exact Or.inl rfl|exact Or.inr (Or.inl rfl)|exact Or.inr (Or.inr rfl))(hd:(x ==("__debug__" : Str))=false:=by decide)
  (hcd:(x ==("__classdict__" : Str))=false:=by decide):DF X (.Subscript (.Name x pos') (.Slice lo hi none p2) pos) (zff i tl th) :=
 DF.of (zgc zjn (wu (i:=i) hN hv hd hcd) hl.po hu.po) λσ H H₀ σD QD ok q=>by
  unfold zff at q
  split at q
  ·next ns e=>
   obtain⟨b,e1,hb⟩:=ok.scr e;exact⟨_,e1,H₀,σD,_,ok,q,λl H2 s2 q2=>⟨H₀,σD,_,ok.after s2,q2,λu H3 s3 q3=>⟨b,_,rfl,s3.seq (s2.seq hb),λp hp=>⟨p,_,_,rfl,(s2.trans s3).trans (zy hp _),(s2.trans s3).free hp,zj,Reps.ints.cut l u,q3⟩⟩⟩⟩
  ·exact q.elim
def zb7(i:Nat):DTE:=λσ Q=>match σ[i]? with
 |some (some (.scr ns))=>Q (.int ns.length)
 |_=>False
theorem zlc(i:Nat){x:Str}{pos':Pos}(hg:Gl X "len")(hm:X.mg "len" = none)(hN:X.N[i]?=some x:=by rfl)(hv:Vis X.env.scope x:=by first|exact Or.inl rfl|exact Or.inr (Or.inl rfl)|exact Or.inr (Or.inr rfl))(hd:(x ==("__debug__" : Str))=false:=by decide)
  (hcd:(x ==("__classdict__" : Str))=false:=by decide):DE X (.Call (.Name "len" p) [.Name x pos'] [] pos) (zb7 i) :=
 DE.of (qe ze9 hg hm PySem.boot_len (yo (wu (i:=i) hN hv hd hcd) wb)) λσ H H₀ σD QD ok q=>by
  unfold zb7 at q
  split at q
  ·next ns e=>
   obtain⟨b,e1,hb⟩:=ok.scr e;exact⟨_,e1,b,_,rfl,.inl hb,_,Same.refl _,.int,by rw[List.length_map];exact q⟩
  ·exact q.elim
def zfg(i:Nat)(tb:DTE):DTE:=λσ Q=>match σ[i]? with
 |some (some (.scr ns))=>tb σ λd=>match d with
  |.int k=>∃n,atI ns k=some n/\Q (.int n)
  |_=>False
 |_=>False
theorem zp4{α β:Type}(f:α->β)(xs:List α)(i:Int):atI (xs.map f) i=(atI xs i).map f:=by
 unfold atI;rw[List.length_map]
 cases ixN xs.length i with
 |none=>rfl
 |some j=>simp
theorem znm(i:Nat){x:Str}{pos':Pos}(hb:DE X b tb)(hs:ze7 b)(hN:X.N[i]?=some x:=by rfl)(hv:Vis X.env.scope x:=by first|exact Or.inl rfl|exact Or.inr (Or.inl rfl)|exact Or.inr (Or.inr rfl))(hd:(x ==("__debug__" : Str))=false:=by decide)
  (hcd:(x ==("__classdict__" : Str))=false:=by decide):DE X (.Subscript (.Name x pos') b pos) (zfg i tb) :=
 DE.of (zaw ix_list (wu (i:=i) hN hv hd hcd) hb.pe hs) λσ H H₀ σD QD ok q=>by
  unfold zfg at q
  split at q
  ·next ns e=>
   obtain⟨b,e1,hb⟩:=ok.scr e;refine⟨_,e1,H₀,σD,_,ok,q,λw H2 d2 s2 r2 q2=>?_⟩
   cases d2 with
   |int k=>
    cases r2;obtain⟨n,en,q⟩:=q2;exact⟨b,_,k,.int n,rfl,rfl,s2.seq hb,by rw[zp4,en];rfl,_,s2,.int,q⟩
   |_=>exact q2.elim
  ·exact q.elim
end
structure ItOk(K:PySem.W.Frag)(Kp:Hp->Hp->Prop)(J:It)(H1:Hp)(ds:List D):Prop where
 go:∀H i d,Kp H1 H->ds[i]?=some d->J.go i H/\∀x H',J.yld i H x H'->Same H H'/\Rep K H' d x
 stop:∀H,Kp H1 H->J.stop ds.length H
theorem ItOk.weak{K:PySem.W.Frag}{J:It}{H1:Hp}{ds:List D}(h:ItOk K Pers J H1 ds):ItOk K Same J H1 ds:=⟨λH i d s=>h.go H i d s.pers,λH s=>h.stop H s.pers⟩
def cnI(K:PySem.W.Frag)(Kp:Hp->Hp->Prop)(t:DTF):TI:=λσ H R=>∃H₀ σD QD,DOk K H₀ H σD σ/\t σD QD/\∀J H1 ds,Same H H1->ItOk K Kp J H1 ds->QD ds->R J H1
structure DI(X:Cx)(tg iter:Expr)(t:DTF):Prop where
 pi:PI X tg iter (cnI X.K Pers t)
structure DIw(X:Cx)(tg iter:Expr)(t:DTF):Prop where
 pi:PI X tg iter (cnI X.K Same t)
section
variable {X:Cx}{tg iter e:Expr}{t:DTF}{te:DTE}{p pos:Pos}
theorem DI.w(h:DI X tg iter t):DIw X tg iter t:=⟨λpins s σ H R I zq56=>by obtain⟨H₀,σD,QD,ok,q,k⟩:=zq56;exact h.pi pins s σ H R I ⟨H₀,σD,QD,ok,q,λJ H1 ds s1 o qd=>k J H1 ds s1 o.weak qd⟩⟩
theorem znn{l:Expr}{tl:TE}(hl:PE X l tl):PI X tg l (λσ H R=>tl σ H λx H1=>(∃a xs,x=.ref a/\SqL X.K H1 a xs/\R (Itl X.K a) H1)\/∃a xs,x=.ref a/\SqT X.K H1 a xs/\R (Itt X.K a) H1):=by
 intro pins s σ H R I h;refine thn (hl pins s σ H _ I h) λv s1 zr22=>?_;obtain⟨x,H1,I1,r1,q1⟩:=zr22;rcases q1 with⟨a,xs,e,hq,q⟩ |⟨a,xs,e,hq,q⟩
 ·subst e
  cases r1;obtain⟨its,rv,p,hz⟩:=I1.list hq;refine wpAny_pyIter_list p.isList ?_;refine⟨s1.heap.objs.size,[s1.heap.objs.size],_,_,H1,rfl,I1.kept (t':=s1.toks) λb o e=>Heap.get?_push_of_some _ e,zkx a _,⟨_,Heap.get?_push_size _ rfl,rfl,rfl⟩,λb hb=>?_,q⟩;have e:b=s1.heap.objs.size:=by simpa using hb
  subst e;exact I1.fpOk (Nat.le_refl _) (I1.hok.fresh (Nat.le_refl _))
 ·subst e
  cases r1;obtain⟨its,rv,p,hz⟩:=I1.tuple hq;refine wpAny_pyIter_tuple (show s1.heap.IsTuple a its.toArray from p) ?_;refine⟨s1.heap.objs.size,[s1.heap.objs.size],_,_,H1,rfl,I1.kept (t':=s1.toks) λb o e=>Heap.get?_push_of_some _ e,zht a _,⟨_,Heap.get?_push_size _ rfl,rfl,rfl⟩,λb hb=>?_,q⟩;have e:b=s1.heap.objs.size:=by simpa using hb
  subst e;exact I1.fpOk (Nat.le_refl _) (I1.hok.fresh (Nat.le_refl _))
def zjx(te:DTE):DTF:=λσ Q=>te σ λd=>match d with
 |.list xs=>Q xs
 |.tuple xs=>Q xs
 |_=>False
theorem zno{K:PySem.W.Frag}{Kp:Hp->Hp->Prop}{H1:Hp}{a:Addr}{xs:List D}{vs:List V}(kp:∀H,Kp H1 H->SqL K H a vs/\Reps K H xs vs):ItOk K Kp (Itl K a) H1 xs where
 go:=λH i d k e=>by
  obtain⟨hs,r⟩:=kp H k;obtain⟨v,e1,r1⟩:=r.get e;refine⟨⟨vs,v,hs,e1⟩,λx H' y=>?_⟩;obtain⟨rfl,y⟩:=y;have:=y vs hs;rw[e1]at this
  cases this;exact⟨Same.refl _,r1⟩
 stop:=λH k=>by
  obtain⟨hs,r⟩:=kp H k;exact⟨vs,hs,by rw[r.length];exact Nat.le_refl _⟩
theorem znp{K:PySem.W.Frag}{Kp:Hp->Hp->Prop}{H1:Hp}{a:Addr}{xs:List D}{vs:List V}(kp:∀H,Kp H1 H->SqT K H a vs/\Reps K H xs vs):ItOk K Kp (Itt K a) H1 xs where
 go:=λH i d k e=>by
  obtain⟨hs,r⟩:=kp H k;obtain⟨v,e1,r1⟩:=r.get e;refine⟨⟨vs,v,hs,e1⟩,λx H' y=>?_⟩;obtain⟨rfl,y⟩:=y;have:=y vs hs;rw[e1]at this
  cases this;exact⟨Same.refl _,r1⟩
 stop:=λH k=>by
  obtain⟨hs,r⟩:=kp H k;exact⟨vs,hs,by rw[r.length];exact Nat.le_refl _⟩
theorem Pers.sqF{K:PySem.W.Frag}{H H':Hp}{a:Addr}{o:Obj}{vs:List V}(p:Pers H H')(h:H a=some (.frz o (.lst vs))):SqL K H' a vs:=.inl (.inr ⟨o,p _ _ h rfl⟩)
theorem zco(h:DE X e te):DI X tg e (zjx te):=⟨λpins s σ H R I ⟨H₀,σD,QD,ok,q,k⟩=>znn h.pe pins s σ H R I ⟨H₀,σD,_,ok,q,λv H1 d s1 r1 q1=>by
 cases d with
 |list xs=>
  cases r1 with
  |lst hf r=>exact .inl ⟨_,_,rfl,.inl (.inr ⟨_,hf⟩),k _ _ xs s1 (zno λH' pr=>⟨pr.sqF hf,r.mono pr⟩) q1⟩
 |tuple xs=>
  cases r1 with
  |tup hf r=>exact .inr ⟨_,_,rfl,hf,k _ _ xs s1 (znp λH' pr=>⟨pr.sqT hf,r.mono pr⟩) q1⟩
 |_=>exact q1.elim⟩⟩
theorem RepL.sq'{K:PySem.W.Frag}{H H':Hp}{a:Addr}{vs:List V}(s:Same H H')(h:Rd H a (.lst vs)):SqL K H' a vs:=by
 rcases h with h |⟨o,h⟩
 ·exact .inl (.inl (s _ _ h))
 ·exact .inl (.inr ⟨o,s _ _ h⟩)
theorem xz(h:DV X e te):DIw X tg e (zjx te):=⟨λpins s σ H R I ⟨H₀,σD,QD,ok,q,k⟩=>znn h.pe pins s σ H R I ⟨H₀,σD,_,ok,q,λv H1 d s1 r1 q1=>by
 cases d with
 |list xs=>
  obtain⟨a,vs,rfl,hf,r⟩:=r1.list;exact .inl ⟨_,_,rfl,.inl hf,k _ _ xs s1 (zno λH' pr=>⟨RepL.sq' pr hf,r.same pr⟩) q1⟩
 |tuple xs=>
  obtain⟨a,vs,rfl,hf,r⟩:=r1.tuple;exact .inr ⟨_,_,rfl,hf,k _ _ xs s1 (znp λH' pr=>⟨pr.pers.sqT hf,r.same pr⟩) q1⟩
 |_=>exact q1.elim⟩⟩
def xb(lo:Int)(n:Nat):List D:=(List.range n).map λi=>.int (lo+(i:Nat))
theorem ztl{K:PySem.W.Frag}{Kp:Hp->Hp->Prop}{H1:Hp}(lo:Int)(n:Nat):ItOk K Kp (Itr lo n) H1 (xb lo n) where
 go:=λH i d k e=>by
  have hi:i<n:=by have:=(List.getElem?_eq_some_iff.mp e).1;simpa[xb]using this
  refine⟨hi,λx H' y=>?_⟩;obtain⟨rfl,rfl⟩:=y;refine⟨Same.refl _,?_⟩;simp[xb,List.getElem?_map,List.getElem?_range hi]at e;subst e;exact .int
 stop:=λH k=>by
  show n<=(xb lo n).length;simp[xb]
def zfh(ta:DTF):DTF:=λσ Q=>ta σ λds=>match ds with
 |[.int j]=>(-(2 ^ 62)<=j/\j<2 ^ 62)/\Q (xb 0 j.toNat)
 |_=>False
variable {a b:Expr}
theorem vt(hg:Gl X "range")(hm:X.mg "range" = none)(ha:DA X [a] t)(hs:starEach [a] X.env = [(false,eval a X.env)]:=by rfl):DI X tg (.Call (.Name "range" p) [a] [] pos) (zfh t) :=
 ⟨λpins s σ H R I ⟨H₀,σD,QD,ok,q,k⟩=>zky hg hm ha.pa hs pins s σ H R I ⟨H₀,σD,_,ok,q,λvs H1 ds s1 r1 q1=>by
  match ds,r1,q1 with
  |[.int j],r1,q1=>
   cases r1 with
   |cons r t=>
    cases t
    cases r;exact⟨j,rfl,q1.1.1,q1.1.2,k _ _ _ s1 (ztl 0 j.toNat) q1.2⟩⟩⟩
theorem Rep.seqP{K:PySem.W.Frag}{H:Hp}{d:D}{v:V}{xs:List D}(h:Rep K H d v)(e:d=.list xs\/d=.tuple xs):∃b a vs,v=.ref a/\∀H',Pers H H'->SqG b K H' a vs/\Reps K H' xs vs:=by
 cases h with
 |lst hf r=>
  rcases e with e|e
  ·cases e;exact⟨false,_,_,rfl,λH' p=>⟨p.sqF hf,r.mono p⟩⟩
  ·cases e
 |tup hf r=>
  rcases e with e|e
  ·cases e
  ·cases e;exact⟨true,_,_,rfl,λH' p=>⟨p.sqT hf,r.mono p⟩⟩
 |_=>rcases e with e|e <;> cases e
def qf:Nat->List D->List D
 |_,[]=>[]
 |k,x::xs=>.tuple [.int k,x]::qf (k+1) xs
theorem zeg:∀{xs:List D}{k i:Nat}{x:D},(qf k xs)[i]?=some x->∃y,xs[i]?=some y/\x=.tuple [.int ((k+i:Nat):Int),y]
 |[],_,_,_,e=>by simp[qf]at e
 |y::ys,k,0,x,e=>by simp[qf]at e;subst e;exact⟨y,rfl,rfl⟩
 |y::ys,k,i+1,x,e=>by
  simp only[qf,List.getElem?_cons_succ]at e;obtain⟨z,e1,e2⟩:=zeg e;refine⟨z,by simpa using e1,?_⟩;rw[e2,show k+1+i=k+(i+1) by omega]
theorem zeh:∀(k:Nat) (xs:List D),(qf k xs).length=xs.length
 |_,[]=>rfl
 |k,_::xs=>by simp[qf,zeh (k+1) xs]
abbrev DTG:=D->DSt->(DSt->Prop)->Prop
abbrev zfi:=List D->DSt->(DSt->Prop)->Prop
structure DG(X:Cx)(tg:Expr)(is:List Nat)(g:DTG):Prop where
 run:∀(pins:List (Addr×Obj)) (s:Shared) (σ:St) (H H₀:Hp) (σD:DSt) (v:V) (u:Value) (d:D) (Q:DSt->Prop),Inv X pins σ H s->DOk X.K H₀ H σD σ->RelV v u->Rep X.K H d v->g d σD Q ->
  wpAny (model X.prog X.w) X.A (assign tg X.env u) (λ_ s'=>∃σ' σD',Inv X pins σ' H s'/\DOk X.K H₀ H σD' σ'/\(∀j,j∉is->σ'[j]?=σ[j]?)/\Q σD') X.xe s
structure DGs(X:Cx)(ts:List Expr)(is:List Nat)(g:zfi):Prop where
 run:∀(pins:List (Addr×Obj)) (s:Shared) (σ:St) (H H₀:Hp) (σD:DSt) (vs:List V) (us:List Value) (ds:List D) (Q:DSt->Prop),Inv X pins σ H s->DOk X.K H₀ H σD σ->Vals vs us->Reps X.K H ds vs->g ds σD Q ->
  wpAny (model X.prog X.w) X.A (assignInOrder ((assignEach ts X.env).map (·.2)) us) (λ_ s'=>∃σ' σD',Inv X pins σ' H s'/\DOk X.K H₀ H σD' σ'/\(∀j,j∉is->σ'[j]?=σ[j]?)/\Q σD') X.xe s
def zao(i:Nat):DTG:=λd σ Q=>Q (σ.set i (some (.val d)))
theorem z0{i:Nat}{x:Str}(hN:X.N.Nodup)(hi:X.N[i]?=some x)(hx:Loc X.env.scope x)(hf:X.fn x=true\/X.env.scope.names.lookup x=some .local:=by first|exact .inl rfl|exact .inr rfl|assumption):DG X (.Name x pos) [i] (zao i) :=
 ⟨λpins s σ H H₀ σD v u d Q I ok r rp q=>wpAny_assign_Name (vz I hN hi hx r (λs' I'=>⟨_,_,I',ok.setV rp i,λj hj=>List.getElem?_set_ne (λz=>hj (by simp[z])),q⟩) hf)⟩
def znq:zfi:=λds σ Q=>ds = []/\Q σ
def zie(g:DTG)(gs:zfi):zfi:=λds σ Q=>match ds with
 |d::r=>g d σ λσ'=>gs r σ' Q
 |[]=>False
theorem vp:DGs X [] [] znq:=⟨λpins s σ H H₀ σD vs us ds Q I ok r rp q=>by
 obtain⟨rfl,q⟩:=q
 cases rp
 cases r;exact assignInOrder_nil ⟨σ,σD,I,ok,λ_ _=>rfl,q⟩⟩
theorem yk{e:Expr}{es:List Expr}{i1 i2:List Nat}{g:DTG}{gs:zfi}(h1:DG X e i1 g)(h2:DGs X es i2 gs)
  (hs:(assignEach (e::es) X.env).map (·.2)=assign e X.env::(assignEach es X.env).map (·.2):=by rfl):DGs X (e::es) (i1++i2) (zie g gs):=⟨λpins s σ H H₀ σD vs us ds Q I ok r rp q=>by
 cases rp with
 |nil=>exact q.elim
 |cons rd rds=>
  cases r with
  |cons r rr=>
   rw[hs];refine assignInOrder_cons (thn (h1.run pins s σ H H₀ σD _ _ _ _ I ok r rd q) λ_ s1 zr48=>?_);obtain⟨σ1,σD1,I1,ok1,f1,q1⟩:=zr48;refine thn (h2.run pins s1 σ1 H H₀ σD1 _ _ _ Q I1 ok1 rr rds q1) λ_ s2 ⟨σ2,σD2,I2,ok2,f2,q2⟩=>⟨σ2,σD2,I2,ok2,λj hj=>?_,q2⟩
   rw[f2 j (λz=>hj (List.mem_append_right _ z)),f1 j (λz=>hj (List.mem_append_left _ z))]⟩
def znr(n:Nat)(gs:zfi):DTG:=λd σ Q=>match d with
 |.tuple xs=>xs.length=n/\gs xs σ Q
 |_=>False
theorem ztm{es:List Expr}{k:Nat}{is:List Nat}{gs:zfi}{n:Nat}(hc:X.calm=true)(h:DGs X es is gs)(hn:(assignEach es X.env).length=n:=by rfl)(hst:(assignEach es X.env).findIdx? (·.1)=none:=by rfl):DG X (.Tuple es k pos) is (znr n gs):=⟨λpins s σ H H₀ σD v u d Q I ok r rp q=>by
 cases d with
 |tuple xs=>
  obtain⟨hl,q⟩:=q
  cases rp with
  |tup hq rr=>
   cases r;obtain⟨its,rv,ht,hz⟩:=I.tuple hq;refine assign_Tuple_tuple (I.ok.hd hc) ht (by simp[hn,<-hl,<-rv.length,rr.length]) hst λh' hx=>?_;have I1:Inv X pins σ H { s with heap:=h' }:=I.kept (t':=s.toks) λb o e=>hx b o (Nat.ne_of_lt (Heap.lt_size e)) e;exact h.run pins _ σ H H₀ σD _ _ xs Q I1 ok (by simpa using rv) rr q
 |_=>exact q.elim⟩
def lcD(f:D->(Option D->Prop)->Prop):List D->(List D->Prop)->Prop
 |[],Q=>Q []
 |d::ds,Q=>f d λo=>lcD f ds λys=>Q (match o with|some y=>y::ys|none=>ys)
def zgq:Option W->Option W
 |some (.own (.lst xs))=>some (.vw xs)
 |some (.own (.dct xs))=>some (.vd xs)
 |some (.own (.nst _ _))=>none
 |some (.own (.anc _ _))=>none
 |some (.own (.ins _ _))=>none
 |some (.own (.mix _))=>none
 |some (.own (.tk _))=>none
 |some (.own (.dcT _))=>none
 |some (.tmp _)=>none
 |w=>w
def wc(k:Nat)(js:List Nat)(σ:DSt):DSt:=List.replicate k none++js.map λj=>zgq (σ[j]?).join
def lcF(g:DTG)(tt:DTT)(te:DTE)(σ0:DSt):D->(Option D->Prop)->Prop:=λd k=>g d σ0 λσ2=>tt σ2 λb=>if b=true then te σ2 λy=>k (some y) else k none
def dLC(k:Nat)(js:List Nat)(ti:DTF)(g:DTG)(tt:DTT)(te:DTE):DTF:=λσ Q=>ti σ λds=>ds.length<=sizeLine/\lcD (lcF g tt te (wc k js σ)) ds Q
structure DTs(X:Cx)(ifs:List Expr)(t:DTT):Prop where
 pts:PTs X ifs (cnT X.K t)
def zei:DTT:=λ_ Q=>Q true
theorem xg:DTs X [] zei:=⟨λpins s σ H Q I zq37=>by obtain⟨H₀,σD,QD,ok,q,k⟩:=zq37;exact zpt pins s σ H Q I (k true H (Same.refl _) q)⟩
theorem zfj{c:Expr}{t:DTT}(h:DT X c t):DTs X [c] t:=⟨zpu h.pt⟩
theorem Slots.keepN{K:PySem.W.Frag}{H₀ H:Hp}{σD:DSt}{σ:St}{fp:List Addr}(h:Slots K H₀ H σD σ fp):∀{σ':St},σ'.length=σ.length->(∀j:Nat,σD[j]?=some Option.none\/σ'[j]?=σ[j]?)->Slots K H₀ H σD σ' fp:=by
 induction h with
 |nil=>intro σ' hl _;cases σ' with
  |nil=>exact .nil
  |cons _ _=>simp at hl
 |none t ih=>
  intro σ' hl k
  cases σ' with
  |nil=>simp at hl
  |cons x σ'=>exact .none (ih (by simpa using hl) λj=>by simpa using k (j+1))
 |val r t ih=>
  intro σ' hl k
  cases σ' with
  |nil=>simp at hl
  |cons x σ'=>
   have:=k 0;simp at this;subst this;exact .val r (ih (by simpa using hl) λj=>by simpa using k (j+1))
 |vw r t ih=>
  intro σ' hl k
  cases σ' with
  |nil=>simp at hl
  |cons x σ'=>
   have:=k 0;simp at this;subst this;exact .vw r (ih (by simpa using hl) λj=>by simpa using k (j+1))
 |vd r t ih=>
  intro σ' hl k
  cases σ' with
  |nil=>simp at hl
  |cons x σ'=>
   have:=k 0;simp at this;subst this;exact .vd r (ih (by simpa using hl) λj=>by simpa using k (j+1))
 |exc r t ih=>
  intro σ' hl k
  cases σ' with
  |nil=>simp at hl
  |cons x σ'=>
   have:=k 0;simp at this;subst this;exact .exc r (ih (by simpa using hl) λj=>by simpa using k (j+1))
 |scr r t ih=>
  intro σ' hl k
  cases σ' with
  |nil=>simp at hl
  |cons x σ'=>
   have:=k 0;simp at this;subst this;exact .scr r (ih (by simpa using hl) λj=>by simpa using k (j+1))
 |pen r t ih=>
  intro σ' hl k
  cases σ' with
  |nil=>simp at hl
  |cons x σ'=>
   have:=k 0;simp at this;subst this;exact .pen r (ih (by simpa using hl) λj=>by simpa using k (j+1))
 |tmp r t ih=>
  intro σ' hl k
  cases σ' with
  |nil=>simp at hl
  |cons x σ'=>
   have:=k 0;simp at this;subst this;exact .tmp r (ih (by simpa using hl) λj=>by simpa using k (j+1))
 |own r t ih=>
  intro σ' hl k
  cases σ' with
  |nil=>simp at hl
  |cons x σ'=>
   have:=k 0;simp at this;subst this;exact .own r (ih (by simpa using hl) λj=>by simpa using k (j+1))
theorem DOk.keepN{K:PySem.W.Frag}{H₀ H:Hp}{σD:DSt}{σ σ':St}(h:DOk K H₀ H σD σ)(hl:σ'.length=σ.length)(k:∀j:Nat,σD[j]?=some Option.none\/σ'[j]?=σ[j]?):DOk K H₀ H σD σ':=let ⟨s,fp,sl,r⟩:=h;⟨s,fp,sl.keepN hl k,r⟩
theorem DOk.block{K:PySem.W.Frag}{H₀ H:Hp}{σD:DSt}{σ:St}(h:DOk K H₀ H σD σ)(k:Nat)(js:List Nat):DOk K H H (wc k js σD) (xf k js σ):=by
 refine⟨Same.refl _,[],?_,List.nodup_nil,λa ha=>by cases ha⟩;have two:∀js:List Nat,Slots K H H (js.map λj=>zgq (σD[j]?).join) (js.map λj=>(σ[j]?).join) []:=by
  intro js
  induction js with
  |nil=>exact .nil
  |cons j js ih=>
   simp only[List.map_cons];have nn:∀v,Slots K H H (none::js.map λj=>zgq (σD[j]?).join) (v::js.map λj=>(σ[j]?).join) []:=λv=>.none ih
   cases e:σD[j]? with
   |none=>exact nn _
   |some o=>
    cases o with
    |none=>exact nn _
    |some w=>
     cases w with
     |val d=>
      obtain⟨v,e1,r⟩:=h.val e;rw[e1];exact .val r ih
     |vw xs=>
      obtain⟨v,e1,r⟩:=h.vw e;rw[e1];exact .vw r ih
     |vd xs=>
      obtain⟨v,e1,r⟩:=h.vd e;rw[e1];exact .vd r ih
     |exc xs=>
      obtain⟨v,e1,r⟩:=h.exc e;rw[e1];exact .exc r ih
     |scr ns=>
      obtain⟨a,e1,r⟩:=h.scr e;rw[e1];exact .scr r ih
     |pen=>
      obtain⟨a,e1,r⟩:=h.pen e;rw[e1];exact .pen r ih
     |tmp d=>exact nn _
     |own o=>
      cases o with
      |lst xs=>
       obtain⟨a,vs,e1,e2,r,_⟩:=h.ownL e;rw[e1];exact .vw ⟨a,vs,rfl,.inl e2,r⟩ ih
      |dct xs=>
       obtain⟨a,vs,e1,e2,r,_⟩:=h.ownD e;rw[e1];exact .vd ⟨a,vs,rfl,e2,r⟩ ih
      |nst xss ds=>exact nn _
      |anc _ _=>exact nn _
      |ins _ _=>exact nn _
      |mix _=>exact nn _
      |tk _=>exact nn _
      |dcT _=>exact nn _
 unfold wc xf
 induction k with
 |zero=>exact two js
 |succ k ih=>exact .none ih
theorem zgr{g:DTG}{tt:DTT}{te:DTE}{k:Nat}{js is:List Nat}{σ:St}{σD:DSt}{H₀ H1:Hp}{J:It}{ds:List D}{QD:List D->Prop}{Dd:Addr}{gL:TG}(ok:DOk X.K H₀ H1 σD σ)(it:ItOk X.K Same J H1 ds)(hz:ds.length<=sizeLine)
  (hg:∀d v σ' H' Q (σ0:DSt),DOk X.K H1 H' σ0 σ'->Rep X.K H' d v->g d σ0 Q->gL v σ' H' (λσ2 H2=>H2=H'/\σ2.length=σ'.length/\(∀j,j∉is->σ2[j]?=σ'[j]?)/\∃σD2,DOk X.K H1 H' σD2 σ2/\Q σD2))
  (mono:∀v σ' H' (Q Q':St->Hp->Prop),(∀σ2 H2,Q σ2 H2->Q' σ2 H2)->gL v σ' H' Q->gL v σ' H' Q')
  (his:∀j∈is,j<k) (hn:H1 Dd=none) (q:lcD (lcF g tt te (wc k js σD)) ds QD) :
  zfc J Dd gL (cnT X.K tt) (cnE X.K te) (xf k js σ) H1 (λv H'=>∃a vs xs,v=.ref a/\Same H1 H'/\H1 a=none/\H' a=some (.lst vs)/\Reps X.K H' xs vs/\QD xs):=by
 have sub:∀{Q1:List D->Prop}{i:Nat}{d:D},ds[i]?=some d->lcD (lcF g tt te (wc k js σD)) (ds.drop i) Q1=lcF g tt te (wc k js σD) d (λo=>lcD (lcF g tt te (wc k js σD)) (ds.drop (i+1)) λys=>Q1 (match o with|some y=>y::ys|none=>ys)):=λ{Q1 i d} e=>by
  obtain⟨hi,e'⟩:=List.getElem?_eq_some_iff.mp e;rw[List.drop_eq_getElem_cons hi,e'];rfl
 refine⟨λi m σ' H'=>m=ds.length-i/\i<=ds.length/\Same H1 H'/\σ'.length=(xf k js σ).length/\(∀j,k<=j->σ'[j]?=(xf k js σ)[j]?)/\∃acc vs,H' Dd=some (.lst vs)/\Reps X.K H' acc vs/\acc.length<=i/\lcD (lcF g tt te (wc k js σD)) (ds.drop i) (λys=>QD (acc++ys)),
  ⟨ds.length,rfl,Nat.zero_le _,zy hn _,rfl,λ_ _=>rfl,[],[],zj,.nil,Nat.le_refl _,q⟩,?_⟩
 intro i m σ' H' zz;refine gg λG zk=>?_;obtain⟨zem,hi,sm,hl,fr,acc,vs,eD,ra,la,q1⟩:=zz;refine zk ?_;clear zk;subst zem;have ok1:DOk X.K H1 H' (wc k js σD) σ':=by
  refine DOk.keepN ((ok.block k js).after sm) hl λj=>?_
  by_cases hj:j<k
  ·left;unfold wc;rw[List.getElem?_append_left (by simpa using hj),List.getElem?_replicate,if_pos hj]
  ·right;exact fr j (by omega)
 by_cases hlt:i<ds.length
 ·have e:ds[i]?=some ds[i]:=by simp[hlt]
  obtain⟨go,yl⟩:=it.go H' i ds[i] sm e;refine .inr ⟨go,λx H2 y=>?_⟩;obtain⟨s2,r2⟩:=yl x H2 y;rw[sub e]at q1;refine mono _ _ _ _ _ (λσ2 H3 z=>?_) (hg ds[i] x σ' H2 _ _ (ok1.after s2) r2 q1);obtain⟨rfl,l2,f2,σD2,ok2,q2⟩:=z;have fr2:∀j,k<=j->σ2[j]?=(xf k js σ)[j]?:=λj hj=>by rw[f2 j (λz=>absurd (his j z) (by omega)),fr j hj]
  refine⟨H1,σD2,_,ok2,q2,λb H4 s4 q4=>?_⟩
  cases b with
  |true=>
   rw[if_pos rfl]at q4 ⊢;refine⟨H1,σD2,_,ok2.after s4,q4,λy H5 dy s5 r5 q5=>?_⟩;have eD5:=s5 _ _ (s4 _ _ (s2 _ _ eD));have ra5:=((ra.same s2).same s4).same s5;refine⟨vs,eD5,by rw[<-ra5.length];omega,ds.length-(i+1),by omega,rfl,hlt,?_,l2.trans hl,fr2,acc ++ [dy],vs ++ [y],zj,?_,by rw[List.length_append,List.length_singleton];omega,?_⟩
   ·exact Same.but (((sm.trans s2).trans s4).trans s5) hn But.write
   ·exact(ra5.append (.cons r5 .nil)).mono (vo eD5 rfl)
   ·simpa using q5
  |false=>
   rw[if_neg Bool.false_ne_true]at q4 ⊢;exact⟨ds.length-(i+1),by omega,rfl,hlt,(sm.trans s2).trans s4,l2.trans hl,fr2,acc,vs,s4 _ _ (s2 _ _ eD),(ra.same s2).same s4,by omega,by simpa using q4⟩
 ·have e:i=ds.length:=by omega
  subst e;rw[List.drop_length]at q1;refine .inl ⟨it.stop H' sm,Dd,vs,acc,rfl,sm,hn,eD,ra,?_⟩;have:lcD (lcF g tt te (wc k js σD)) [] (λys=>QD (acc++ys)):=q1;simpa[lcD]using this
def cnG(K:PySem.W.Frag)(is:List Nat)(g:DTG):TG:=λv σ H Q=>∃H₀ σD d QD,DOk K H₀ H σD σ/\Rep K H d v/\g d σD QD/\∀σ' σD',σ'.length=σ.length->DOk K H₀ H σD' σ'->(∀j,j∉is->σ'[j]?=σ[j]?)->QD σD'->Q σ' H
theorem DG.pg{is:List Nat}{g:DTG}(h:DG X tg is g):PG X tg (cnG X.K is g):=λpins s σ H v u Q I r zq87=>by obtain⟨H₀,σD,d,QD,ok,rp,q,k⟩:=zq87;exact thn (h.run pins s σ H H₀ σD v u d QD I ok r rp q) λ_ s' zq1=>by obtain⟨σ',σD',I',ok',f,qd⟩:=zq1;exact⟨σ',H,I',k σ' σD' (by rw[I'.len,I.len]) ok' f qd⟩
variable {elt:Expr}{ifs:List Expr}{scope:Scope}{cl:List (Str×Addr)}{N' capt:List Str}{k:Nat}{js is:List Nat}{ti:DTF}{g:DTG}{tt:DTT}{te:DTE}
theorem vg(hc:X.calm=true)(L:zdn X scope cl N' capt k js)
  (hi:DIw X tg iter ti) (hg:∀C fp s2 H2,DG (yh X N' scope cl C fp s2 H2) tg is g) (ht:∀C fp s2 H2,DTs (yh X N' scope cl C fp s2 H2) ifs tt) (he:∀C fp s2 H2,DE (yh X N' scope cl C fp s2 H2) elt te)
  (his:∀j∈is,j<k:=by decide) (hs:∀x,foldedSetIterable iter X.env x=pure x:=by intro _;rfl):DF X (.ListComp elt [⟨tg,iter,ifs,0⟩] scope pos) (dLC k js ti g tt te) :=
 DF.of (zu4 hc L hi.pi (λC fp s2 H2=>(hg C fp s2 H2).pg) (λC fp s2 H2=>(ht C fp s2 H2).pts) (λC fp s2 H2=>(he C fp s2 H2).pe) hs) λσ H H₀ σD QD ok q=>⟨H₀,σD,_,ok,q,λJ H1 ds s1 it q1 Dd hn=>by
  have z:=zgr (k:=k) (js:=js) (is:=is) (gL:=cnG X.K is g) (Dd:=Dd) (ok.after s1) it q1.1 (λd v σ' H' Q σ0 ok0 r0 q0=>⟨H1,σ0,d,Q,ok0,r0,q0,λσ2 σD2 l2 ok2 f2 q2=>⟨rfl,l2,f2,σD2,ok2,q2⟩⟩)
   (λv σ' H' Q Q' m zq7=>by obtain⟨a,b,c,d,e1,e2,e3,e4⟩:=zq7;exact⟨a,b,c,d,e1,e2,e3,λσ2 σD2 l o f q=>m _ _ (e4 σ2 σD2 l o f q)⟩) his hn q1.2
  obtain⟨W,w0,turn⟩:=z;refine⟨W,w0,λi m σ' H' w=>?_⟩;rcases turn i m σ' H' w with⟨st,a,vs,xs,e,sm,n,e2,r,qd⟩|h
  ·exact .inl ⟨st,a,vs,xs,e,s1.trans sm,s1.free n,e2,r,qd⟩
  ·exact .inr h⟩
end
inductive Ret where
 |val (d:D)|new (xs:List D)
def Ret.d:Ret->D
 |.val d=>d
 |.new xs=>.list xs
abbrev DSp:=List W->(Ret->Prop)->Prop
def zax(K:PySem.W.Frag)(H H':Hp):Ret->V->Prop
 |.val d,v=>Rep K H' d v
 |.new xs,v=>∃a vs,v=.ref a/\H a=none/\H' a=some (.lst vs)/\Reps K H' xs vs
def yf(K:PySem.W.Frag)(sp:DSp):Sp:=λvs H Q _=>∃ws QD,RepWs K H ws vs/\sp ws QD/\∀v H' r,Same H H'->zax K H H' r v->QD r->Q v H'
def zej(sp:DSp)(t:DTP):DTE:=λσ Q=>t σ λws=>sp ws λr=>Q r.d
def zif(sp:DSp)(t:DTP):DTF:=λσ Q=>t σ λws=>sp ws λr=>match r with
 |.new xs=>Q xs
 |.val _=>False
section
variable {X:Cx}{e:Expr}{es:List Expr}{k k':Nat}{x:Str}{ps:List Str}{sp:DSp}{t:DTP}{p pos:Pos}
theorem zgs{pins:List (Addr×Obj)}{σ:St}{H H₀:Hp}{σD:DSt}{s:Shared}{Q:Ret->Prop}(C:ym X.prog X.w X.K X.mg X.base k x ps (yf X.K sp))(hr:Room k' X.A)(hg:Gl X x)(ha:DPs X (e::es) t)(hk:k<=k')
  (hdb:(x ==("__debug__" : Str))=false) (he:starEach (e::es) X.env=(false,eval e X.env)::starEach es X.env) (hpl:(backTo pos (starEach es X.env)).any (·.1)=false) (I:Inv X pins σ H s) (ok:DOk X.K H₀ H σD σ) (q:t σD λws=>sp ws Q) :
  wpAny (model X.prog X.w) X.A (eval (.Call (.Name x p) (e::es) [] pos) X.env) (λu s'=>∃v H' r,Inv X pins σ H' s'/\RelV v u/\Same H H'/\zax X.K H H' r v/\Q r) X.xe s:=by
 refine thn (zck C hr hg ha.pa hk hdb he hpl pins s σ H (λv H'=>∃r,Same H H'/\zax X.K H H' r v/\Q r) I ?_) λu s' zq26=>by obtain⟨v,H',I',r,z,sm,rp,qd⟩:=zq26;exact⟨v,H',z,I',r,sm,rp,qd⟩
 refine⟨H₀,σD,_,ok,q,λvs H1 ws s1 r1 q1=>⟨ws,Q,by rw[List.append_nil];exact r1,q1,λv H' r s2 rp qd=>⟨r,s1.trans s2,?_,qd⟩⟩⟩
 cases r with
 |val d=>exact rp
 |new xs=>obtain⟨a,vs,e1,n,e2,r⟩:=rp;exact⟨a,vs,e1,s1.free n,e2,r⟩
theorem yd(C:ym X.prog X.w X.K X.mg X.base k x ps (yf X.K sp))(hr:Room k' X.A)(hg:Gl X x)(ha:DPs X (e::es) t)(hk:k<=k':=by decide)(hdb:(x ==("__debug__" : Str))=false:=by decide)
  (he:starEach (e::es) X.env=(false,eval e X.env)::starEach es X.env:=by rfl) (hpl:(backTo pos (starEach es X.env)).any (·.1)=false:=by rfl):DE X (.Call (.Name x p) (e::es) [] pos) (zej sp t) :=
 ⟨λpins s σ H H₀ σD Q I ok q=>thn (zgs C hr hg ha hk hdb he hpl I ok q) λu s' zq83=>by
  obtain⟨v,H',r,I',rv,sm,rp,qd⟩:=zq83
  cases r with
  |val d=>exact⟨v,H',d,I',rv,sm,rp,qd⟩
  |new xs=>
   obtain⟨a,vs,rfl,n,e,r⟩:=rp;obtain⟨H'',J,sm',r'⟩:=je I' sm n e r;exact⟨.ref a,H'',.list xs,J,rv,sm',r',qd⟩⟩
theorem zp5(C:ym X.prog X.w X.K X.mg X.base k x ps (yf X.K sp))(hr:Room k' X.A)(hg:Gl X x)(ha:DPs X (e::es) t)(hk:k<=k':=by decide)(hdb:(x ==("__debug__" : Str))=false:=by decide)
  (he:starEach (e::es) X.env=(false,eval e X.env)::starEach es X.env:=by rfl) (hpl:(backTo pos (starEach es X.env)).any (·.1)=false:=by rfl):DF X (.Call (.Name x p) (e::es) [] pos) (zif sp t) :=
 ⟨λpins s σ H H₀ σD Q I ok q=>thn (zgs C hr hg ha hk hdb he hpl I ok q) λu s' zq83=>by
  obtain⟨v,H',r,I',rv,sm,rp,qd⟩:=zq83
  cases r with
  |val d=>exact qd.elim
  |new xs=>
   obtain⟨a,vs,rfl,n,e,r⟩:=rp;exact⟨a,H',vs,xs,rv,I',sm,n,e,r,qd⟩⟩
end
structure qc where
 nx:DSt->Prop
 rt:Ret->Prop
 bk:DSt->Prop:=λ_=>False
 ct:DSt->Prop:=λ_=>False
abbrev DTS:=qc->DSt->Prop
def DSP(X:Cx)(pins:List (Addr×Obj))(H₀ H:Hp)(Dn:qc)(f:Flow)(s':Shared):Prop :=
 match f with
 |.next=>∃σ' H' σD',Inv X pins σ' H' s'/\DOk X.K H₀ H' σD' σ'/\Pers H H'/\Dn.nx σD'
 |.brk=>∃σ' H' σD',Inv X pins σ' H' s'/\DOk X.K H₀ H' σD' σ'/\Pers H H'/\Dn.bk σD'
 |.cont=>∃σ' H' σD',Inv X pins σ' H' s'/\DOk X.K H₀ H' σD' σ'/\Pers H H'/\Dn.ct σD'
 |.ret u=>∃v σ' H' r,Inv X pins σ' H' s'/\RelV v u/\Same H₀ H'/\zax X.K H₀ H' r v/\Dn.rt r
structure DS(X:Cx)(st:Stmt)(t:DTS):Prop where
 run:∀(pins:List (Addr×Obj)) (s:Shared) (σ:St) (H H₀:Hp) (σD:DSt) (Dn:qc),Inv X pins σ H s->DOk X.K H₀ H σD σ->t Dn σD->wpAny (model X.prog X.w) X.A (exec st X.env) (DSP X pins H₀ H Dn) X.xe s
structure DSs(X:Cx)(st:List Stmt)(t:DTS):Prop where
 run:∀(pins:List (Addr×Obj)) (s:Shared) (σ:St) (H H₀:Hp) (σD:DSt) (Dn:qc),Inv X pins σ H s->DOk X.K H₀ H σD σ->t Dn σD->wpAny (model X.prog X.w) X.A (execs st X.env) (DSP X pins H₀ H Dn) X.xe s
theorem DSP.back{X:Cx}{pins:List (Addr×Obj)}{H₀ H H1:Hp}{Dn:qc}{f:Flow}{s':Shared}(p:Pers H H1)(h:DSP X pins H₀ H1 Dn f s'):DSP X pins H₀ H Dn f s':=by
 cases f with
 |next=>obtain⟨a,b,c,e1,e2,e3,e4⟩:=h;exact⟨a,b,c,e1,e2,p.trans e3,e4⟩
 |brk=>obtain⟨a,b,c,e1,e2,e3,e4⟩:=h;exact⟨a,b,c,e1,e2,p.trans e3,e4⟩
 |cont=>obtain⟨a,b,c,e1,e2,e3,e4⟩:=h;exact⟨a,b,c,e1,e2,p.trans e3,e4⟩
 |ret u=>exact h
def zrs(K:PySem.W.Frag)(H₀ H:Hp)(Dn:qc):zkw where
 nx:=λσ' H'=>∃σD',DOk K H₀ H' σD' σ'/\Pers H H'/\Dn.nx σD'
 bk:=λσ' H'=>∃σD',DOk K H₀ H' σD' σ'/\Pers H H'/\Dn.bk σD'
 ct:=λσ' H'=>∃σD',DOk K H₀ H' σD' σ'/\Pers H H'/\Dn.ct σD'
 rt:=λv H'=>∃r,Same H₀ H'/\zax K H₀ H' r v/\Dn.rt r
section
variable {X:Cx}{st:Stmt}{sts rest:List Stmt}{t u:DTS}{e:Expr}{te:DTE}{tf:DTF}{pos:Pos}
theorem SP.dsp{pins:List (Addr×Obj)}{H₀ H:Hp}{Dn:qc}{f:Flow}{s':Shared}(h:SP X pins (zrs X.K H₀ H Dn) f s'):DSP X pins H₀ H Dn f s':=by
 cases f with
 |next=>obtain⟨a,b,e1,c,e2,e3,e4⟩:=h;exact⟨a,b,c,e1,e2,e3,e4⟩
 |brk=>obtain⟨a,b,e1,c,e2,e3,e4⟩:=h;exact⟨a,b,c,e1,e2,e3,e4⟩
 |cont=>obtain⟨a,b,e1,c,e2,e3,e4⟩:=h;exact⟨a,b,c,e1,e2,e3,e4⟩
 |ret u=>obtain⟨v,a,b,e1,e2,r,e3,e4,e5⟩:=h;exact⟨v,a,b,r,e1,e2,e3,e4,e5⟩
theorem DS.of{t':TS}(h:PS X st t')(k:∀σ H H₀ σD Dn,DOk X.K H₀ H σD σ->t Dn σD->t' (zrs X.K H₀ H Dn) σ H):DS X st t :=
 ⟨λpins s σ H H₀ σD Dn I ok q=>thn (h pins s σ H _ I (k σ H H₀ σD Dn ok q)) λ_ _ z=>z.dsp⟩
def cnS(K:PySem.W.Frag)(t:DTS):TS:=λE σ H=>∃H₀ σD Dn,DOk K H₀ H σD σ/\t Dn σD/\(∀σ' H' σD',DOk K H₀ H' σD' σ'->Pers H H'->Dn.nx σD'->E.nx σ' H')/\(∀v H' r,Same H₀ H'->zax K H₀ H' r v->Dn.rt r->E.rt v H') /\
 (∀σ' H' σD',DOk K H₀ H' σD' σ'->Pers H H'->Dn.bk σD'->E.bk σ' H')/\∀σ' H' σD',DOk K H₀ H' σD' σ'->Pers H H'->Dn.ct σD'->E.ct σ' H'
theorem DSs.ps(h:DSs X sts t):PSs X sts (cnS X.K t):=by
 intro pins s σ H E I zz;obtain⟨H₀,σD,Dn,ok,q,k1,k2,k3,k4⟩:=zz;refine thn (h.run pins s σ H H₀ σD Dn I ok q) λf s' z=>?_
 cases f with
 |next=>obtain⟨a,b,c,e1,e2,e3,e4⟩:=z;exact⟨a,b,e1,k1 a b c e2 e3 e4⟩
 |brk=>obtain⟨a,b,c,e1,e2,e3,e4⟩:=z;exact⟨a,b,e1,k3 a b c e2 e3 e4⟩
 |cont=>obtain⟨a,b,c,e1,e2,e3,e4⟩:=z;exact⟨a,b,e1,k4 a b c e2 e3 e4⟩
 |ret u=>obtain⟨v,a,b,r,e1,e2,e3,e4,e5⟩:=z;exact⟨v,a,b,e1,e2,k2 v b r e3 e4 e5⟩
def zjy:DTS:=λDn σ=>Dn.nx σ
def zns(t u:DTS):DTS:=λDn σ=>t { Dn with nx:=u Dn } σ
theorem yu:DSs X [] zjy:=⟨λ_ _ σ H _ σD _ I ok h=>wpAny_execs_nil ⟨σ,H,σD,I,ok,Pers.refl _,h⟩⟩
theorem zg(h1:DS X st t)(h2:DSs X rest u):DSs X (st::rest) (zns t u):=⟨λpins s σ H H₀ σD Dn I ok q=>by
 refine wpAny_execs_cons (thn (h1.run pins s σ H H₀ σD { Dn with nx:=u Dn } I ok q) λf s1 z=>?_)
 cases f with
 |next=>
  obtain⟨σ',H',σD',I',ok',p,q'⟩:=z;exact thn (h2.run pins s1 σ' H' H₀ σD' Dn I' ok' q') λ_ _ y=>y.back p
 |ret v=>exact z
 |brk=>exact z
 |cont=>exact z⟩
theorem zq(h1:DS X st t):DSs X [st] t:=⟨λpins s σ H H₀ σD Dn I ok q=>by
 refine wpAny_execs_cons (thn (h1.run pins s σ H H₀ σD Dn I ok q) λf s1 z=>?_)
 cases f with
 |next=>exact wpAny_execs_nil z
 |ret v=>exact z
 |brk=>exact z
 |cont=>exact z⟩
def zig:DTS:=λDn σ=>Dn.bk σ
theorem znt:DS X (.Break pos) zig:=⟨λ_ _ σ H _ σD _ I ok h=>wpAny_Break ⟨σ,H,σD,I,ok,Pers.refl _,h⟩⟩
def zp6(i:Nat)(t:DTS):DTS:=λDn σ=>match σ[i]? with
 |some (some (.own (.lst xs)))=>t Dn (σ.set i (some (.val (.list xs))))
 |_=>False
theorem zih{K:PySem.W.Frag}{H:Hp}{xss:List (List D)}{ds:List D}{v:V}{f1 f2:List Addr}(r:RepO K H (.nst xss ds) v f1)(r2:RepO K H (.nst xss ds) v f2):f1=f2:=by
 obtain⟨a,as,us,rfl,rfl,e,n,_⟩:=r;obtain⟨a2,as2,us2,e0,rfl,e2,n2,_⟩:=r2
 cases e0;rw[e]at e2;have h1:as.map V.ref++us=as2.map V.ref++us2:=HO.lst.inj (Option.some.inj e2);have h2:as.map V.ref=as2.map V.ref:=(List.append_inj h1 (by rw[List.length_map,List.length_map,n.len,n2.len])).1;have h3:as=as2:=(List.map_inj_right λx y h=>V.ref.inj h).mp h2;rw[h3]
theorem RepO.fp{K:PySem.W.Frag}{H:Hp}{o:O}{v:V}{f1 f2:List Addr}(r:RepO K H o v f1)(r2:RepO K H o v f2):f1=f2:=by
 induction o with
 |lst xs=>
  obtain⟨b,_,eb,rfl,_⟩:=r;obtain⟨b2,_,eb2,rfl,_⟩:=r2;rw[eb]at eb2
  cases eb2;rfl
 |dct xs=>
  obtain⟨b,_,eb,rfl,_⟩:=r;obtain⟨b2,_,eb2,rfl,_⟩:=r2;rw[eb]at eb2
  cases eb2;rfl
 |nst xss ds=>exact zih r r2
 |anc a o ih=>exact ih r.2 r2.2
 |tk ks=>
  obtain⟨b,eb,rfl,_⟩:=r;obtain⟨b2,eb2,rfl,_⟩:=r2;rfl
 |dcT xs=>
  obtain⟨b,_,eb,rfl,_⟩:=r;obtain⟨b2,_,eb2,rfl,_⟩:=r2;rw[eb]at eb2
  cases eb2;rfl
 |mix ms=>
  obtain⟨a,us,bs,rfl,rfl,e1,m⟩:=r;obtain⟨a2,us2,bs2,e0,rfl,e2,m2⟩:=r2
  cases e0;rw[e1]at e2
  cases e2;rw[m.fp m2]
 |ins c fs=>
  obtain⟨a,dx,C,fv,rfl,rfl,_,e1,_⟩:=r;obtain⟨a2,dx2,C2,fv2,e0,rfl,_,e2,_⟩:=r2
  cases e0;rw[e1]at e2
  cases e2;rfl
theorem DOk.frz{pins:List (Addr×Obj)}{s:Shared}{σ:St}{H H₀:Hp}{σD:DSt}{i:Nat}{xs:List D}(I:Inv X pins σ H s)(ok:DOk X.K H₀ H σD σ)(e:σD[i]?=some (some (.own (.lst xs)))):∃H',Inv X pins σ H' s/\DOk X.K H₀ H' (σD.set i (some (.val (.list xs)))) σ/\Pers H H':=by
 obtain⟨a,vs,e1,e2,r,n⟩:=ok.ownL e;obtain⟨o,J⟩:=I.frz e2;have ps:Pers H (upd H a (.frz o (.lst vs))):=vo e2 rfl;refine⟨_,J,?_,ps⟩;obtain⟨s0,fp,sl,nd,fr⟩:=id ok;have sm:Same H₀ (upd H a (.frz o (.lst vs))):=λb u hb=>by rw[zn (z9 hb n)];exact s0 b u hb
 have hi:i<σD.length:=(List.getElem?_eq_some_iff.mp e).1
 -- the slot is forgotten first,then filled with the value
 obtain⟨_,fp1,sl1,nd1,fr1⟩:DOk X.K H₀ H (σD.set i none) (σ.set i (some (.ref a))):=ok.setN (some (.ref a)) i;have eσ:σ.set i (some (.ref a))=σ:=by
  refine List.ext_getElem? λj=>?_
  by_cases hj:i=j
  ·subst hj;rw[List.getElem?_set_self (by rw[<-ok.len];exact hi),e1]
  ·rw[List.getElem?_set_ne hj]
 rw[eσ]at sl1;have off:a∉fp1:=λha=>by
  -- every slot's own addresses apart: a belongs to slot i alone
  have key:∀{σD:DSt}{σ:St}{fp:List Addr},Slots X.K H₀ H σD σ fp->fp.Nodup->∀{i:Nat},σD[i]?=some (some (.own (.lst xs)))->σ[i]?=some (some (.ref a))->∀{fp1:List Addr},Slots X.K H₀ H (σD.set i none) σ fp1->a∉fp1:=by
   intro σD σ fp h;have det:∀{σD:DSt}{σ:St}{f1 f2:List Addr},Slots X.K H₀ H σD σ f1->Slots X.K H₀ H σD σ f2->f1=f2:=by
    intro σD σ f1 f2 h1
    induction h1 generalizing f2 with
    |nil=>intro h2;cases h2;rfl
    |none _ ih=>intro h2;cases h2 with|none t=>exact ih t
    |val _ _ ih=>intro h2;cases h2 with|val _ t=>exact ih t
    |vw _ _ ih=>intro h2;cases h2 with|vw _ t=>exact ih t
    |vd _ _ ih=>intro h2;cases h2 with|vd _ t=>exact ih t
    |exc _ _ ih=>intro h2;cases h2 with|exc _ t=>exact ih t
    |scr _ _ ih=>intro h2;cases h2 with|scr _ t=>exact ih t
    |pen _ _ ih=>intro h2;cases h2 with|pen _ t=>exact ih t
    |tmp _ _ ih=>intro h2;cases h2 with|tmp _ t=>exact ih t
    |@own o v f ws vs fp r _ ih=>
     intro h2
     cases h2 with
     |own r2 t=>
      cases o with
      |lst xs=>
       obtain⟨b,_,eb,rfl,_⟩:=r;obtain⟨b2,_,eb2,rfl,_⟩:=r2;rw[eb]at eb2
       cases eb2;rw[ih t]
      |dct xs=>
       obtain⟨b,_,eb,rfl,_⟩:=r;obtain⟨b2,_,eb2,rfl,_⟩:=r2;rw[eb]at eb2
       cases eb2;rw[ih t]
      |nst xss ds=>
       rw[zih r r2,ih t]
      |anc _ _=>rw[RepO.fp r r2,ih t]
      |ins _ _=>rw[RepO.fp r r2,ih t]
      |mix _=>rw[RepO.fp r r2,ih t]
      |tk _=>rw[RepO.fp r r2,ih t]
      |dcT _=>rw[RepO.fp r r2,ih t]
   induction h with
   |nil=>intro _ i e;simp at e
   |none t ih=>
    intro nd i e ev fp1 h1
    cases i with
    |zero=>simp at e
    |succ i=>cases h1 with|none t1=>exact ih nd (by simpa using e) (by simpa using ev) t1
   |val r t ih=>
    intro nd i e ev fp1 h1
    cases i with
    |zero=>simp at e
    |succ i=>cases h1 with|val _ t1=>exact ih nd (by simpa using e) (by simpa using ev) t1
   |vw r t ih=>
    intro nd i e ev fp1 h1
    cases i with
    |zero=>simp at e
    |succ i=>cases h1 with|vw _ t1=>exact ih nd (by simpa using e) (by simpa using ev) t1
   |vd r t ih=>
    intro nd i e ev fp1 h1
    cases i with
    |zero=>simp at e
    |succ i=>cases h1 with|vd _ t1=>exact ih nd (by simpa using e) (by simpa using ev) t1
   |exc r t ih=>
    intro nd i e ev fp1 h1
    cases i with
    |zero=>simp at e
    |succ i=>cases h1 with|exc _ t1=>exact ih nd (by simpa using e) (by simpa using ev) t1
   |scr r t ih=>
    intro nd i e ev fp1 h1
    cases i with
    |zero=>simp at e
    |succ i=>cases h1 with|scr _ t1=>exact ih nd (by simpa using e) (by simpa using ev) t1
   |pen r t ih=>
    intro nd i e ev fp1 h1
    cases i with
    |zero=>simp at e
    |succ i=>cases h1 with|pen _ t1=>exact ih nd (by simpa using e) (by simpa using ev) t1
   |tmp r t ih=>
    intro nd i e ev fp1 h1
    cases i with
    |zero=>simp at e
    |succ i=>cases h1 with|tmp _ t1=>exact ih nd (by simpa using e) (by simpa using ev) t1
   |@own o v f ws wvs fp' r t ih=>
    intro nd i e ev fp1 h1;rw[List.nodup_append]at nd
    cases i with
    |zero=>
     simp at e ev;subst e ev;obtain⟨b,_,eb,rfl,_⟩:=r
     cases eb
     cases h1 with
     |none t1=>
      rw[det t1 t];exact λz=>nd.2.2 _ (by simp) _ z rfl
    |succ i=>
     have e':ws[i]?=some (some (.own (.lst xs))):=by simpa using e
     have ev':wvs[i]?=some (some (.ref a)):=by simpa using ev
     cases h1 with
     |own r1 t1=>
      intro z;rcases List.mem_append.mp z with z|z
      ·obtain⟨v',e1,f',⟨b,zs,rfl,rfl,hb,rb⟩,m⟩:=t.get e';rw[ev']at e1
       cases e1
       cases o with
       |lst ys=>
        obtain⟨b1,_,eb1,rfl,_⟩:=r;obtain⟨b2,_,eb2,rfl,_⟩:=r1;rw[eb1]at eb2
        cases eb2;exact nd.2.2 a z a (m a (by simp)) rfl
       |dct ys=>
        obtain⟨b1,_,eb1,rfl,_⟩:=r;obtain⟨b2,_,eb2,rfl,_⟩:=r1;rw[eb1]at eb2
        cases eb2;exact nd.2.2 a z a (m a (by simp)) rfl
       |nst yss ds=>
        rw[<-zih r r1]at z;exact nd.2.2 a z a (m a (by simp)) rfl
       |anc _ _=>
        rw[<-RepO.fp r r1]at z;exact nd.2.2 a z a (m a (by simp)) rfl
       |ins _ _=>
        rw[<-RepO.fp r r1]at z;exact nd.2.2 a z a (m a (by simp)) rfl
       |mix _=>
        rw[<-RepO.fp r r1]at z;exact nd.2.2 a z a (m a (by simp)) rfl
       |tk _=>
        rw[<-RepO.fp r r1]at z;exact nd.2.2 a z a (m a (by simp)) rfl
       |dcT _=>
        rw[<-RepO.fp r r1]at z;exact nd.2.2 a z a (m a (by simp)) rfl
      ·exact ih nd.2.1 e' ev' t1 z
  exact key sl nd e e1 sl1 ha
 have sl2:Slots X.K H₀ (upd H a (.frz o (.lst vs))) (σD.set i none) σ fp1:=sl1.keep ps (λh=>h.frz e2) λb hb w hw=>by rw[zn (λz=>off (by rw[<-z];exact hb))];exact hw
 have fin:DOk X.K H₀ (upd H a (.frz o (.lst vs))) (σD.set i none) σ:=⟨sm,fp1,sl2,nd1,fr1⟩
 have:=fin.setV (d:=.list xs) (v:=.ref a) (.lst zj (r.mono ps)) i;rw[List.set_set,eσ]at this;exact this
theorem ztn(i:Nat)(h:DS X st t):DS X st (zp6 i t):=⟨λpins s σ H H₀ σD Dn I ok q=>by
 unfold zp6 at q
 split at q
 ·next xs e=>
  obtain⟨H',I',ok',p⟩:=DOk.frz I ok e;exact thn (h.run pins s σ H' H₀ _ Dn I' ok' q) λ_ _ z=>z.back p
 ·exact q.elim⟩
def zto(te:DTE):DTS:=λDn σ=>te σ λd=>Dn.rt (.val d)
def znu(tf:DTF):DTS:=λDn σ=>tf σ λxs=>Dn.rt (.new xs)
def zjz(i:Nat):DTS:=λDn σ=>match σ[i]? with
 |some (some (.own (.lst xs)))=>Dn.rt (.new xs)
 |_=>False
theorem yc(he:DE X e te):DS X (.Return (some e) pos) (zto te) :=
 DS.of (zbe he.pe) λσ H H₀ σD Dn ok q=>⟨H₀,σD,_,ok,q,λv H1 d s1 r1 q1=>⟨.val d,ok.same.trans s1,r1,q1⟩⟩
theorem zp7(he:DF X e tf):DS X (.Return (some e) pos) (znu tf) :=
 DS.of (zbe he.pe) λσ H H₀ σD Dn ok q=>⟨H₀,σD,_,ok,q,λa H1 vs xs s1 n e r1 q1=>⟨.new xs,ok.same.trans s1,⟨a,vs,rfl,ok.same.free n,e,r1⟩,q1⟩⟩
theorem zp8(i:Nat){x:Str}{pos':Pos}(hN:X.N[i]?=some x:=by rfl)(hv:Vis X.env.scope x:=by first|exact Or.inl rfl|exact Or.inr (Or.inl rfl)|exact Or.inr (Or.inr rfl))(hd:(x ==("__debug__" : Str))=false:=by decide)
  (hcd:(x ==("__classdict__" : Str))=false:=by decide):DS X (.Return (some (.Name x pos')) pos) (zjz i) :=
 DS.of (zbe (wu (i:=i) hN hv hd hcd)) λσ H H₀ σD Dn ok q=>by
  unfold zjz at q
  split at q
  ·next xs e=>
   obtain⟨a,vs,e1,e2,r,n⟩:=ok.ownL e;exact⟨.ref a,e1,.new xs,ok.same,⟨a,vs,rfl,n,e2,r⟩,q⟩
  ·exact q.elim
def znv(i:Nat)(te:DTE):DTS:=λDn σ=>te σ λd=>Dn.nx (σ.set i (some (.val d)))
def znw(i:Nat)(tf:DTF):DTS:=λDn σ=>tf σ λxs=>Dn.nx (σ.set i (some (.own (.lst xs))))
def znx(i:Nat)(tf:DTF):DTS:=λDn σ=>tf σ λxs=>(∃a b c:Int,xs = [.int a,.int b,.int c])/\Dn.nx (σ.set i (some .pen))
theorem y2{i:Nat}{x:Str}{pos':Pos}(hN:X.N.Nodup)(hi:X.N[i]?=some x)(hx:Loc X.env.scope x)(he:DE X e te)(hs:swapsWith e (some (.Name x pos')) pos.line X.env=pure false:=by rfl)(hf:X.fn x=true\/X.env.scope.names.lookup x=some .local:=by first|exact .inl rfl|exact .inr rfl|assumption):
  DS X (.Assign [.Name x pos'] e pos) (znv i te) :=
 DS.of (ze4 hN hi hx he.pe hs hf) λσ H H₀ σD Dn ok q=>⟨H₀,σD,_,ok,q,λv H1 d s1 r1 q1=>⟨_,(ok.after s1).setV r1 i,s1.pers,q1⟩⟩
theorem zb8{i:Nat}{x:Str}{pos':Pos}(hN:X.N.Nodup)(hi:X.N[i]?=some x)(hx:Loc X.env.scope x)(he:DF X e tf)(hs:swapsWith e (some (.Name x pos')) pos.line X.env=pure false:=by rfl)(hf:X.fn x=true\/X.env.scope.names.lookup x=some .local:=by first|exact .inl rfl|exact .inr rfl|assumption):
  DS X (.Assign [.Name x pos'] e pos) (znw i tf) :=
 DS.of (ze4 hN hi hx he.pe hs hf) λσ H H₀ σD Dn ok q=>⟨H₀,σD,_,ok,q,λa H1 vs xs s1 n e r1 q1=>⟨_,ok.setO s1 n e r1 i,s1.pers,q1⟩⟩
theorem zp9{i:Nat}{x:Str}{pos':Pos}(hN:X.N.Nodup)(hi:X.N[i]?=some x)(hx:Loc X.env.scope x)(he:DF X e tf)(hs:swapsWith e (some (.Name x pos')) pos.line X.env=pure false:=by rfl)(hf:X.fn x=true\/X.env.scope.names.lookup x=some .local:=by first|exact .inl rfl|exact .inr rfl|assumption):
  DS X (.Assign [.Name x pos'] e pos) (znx i tf):=⟨λpins s σ H H₀ σD Dn I ok q=>by
 refine thn (ze4 hN hi hx he.pe hs hf pins s σ H { nx:=λσ' H'=>∃a,Same H H'/\H a=none/\σ'=σ.set i (some (.ref a))/\(∃x y z:Int,H' a=some (.lst [.int x,.int y,.int z]))/\Dn.nx (σD.set i (some .pen)),rt:=λ_ _=>False } I ⟨H₀,σD,_,ok,q,λa H1 vs xs s1 n e r1 q1=>?_⟩) λf s' z=>?_
 ·obtain⟨⟨x,y,z,rfl⟩,q1⟩:=q1
  cases r1 with
  |cons r1 t=>cases t with
   |cons r2 t=>cases t with
    |cons r3 t=>
     cases t
     cases r1
     cases r2
     cases r3;exact⟨a,s1,n,rfl,⟨x,y,z,e⟩,q1⟩
 ·cases f with
  |next=>
   obtain⟨σ',H',I',a,sm,n,rfl,⟨x,y,z,e⟩,q⟩:=z;have sm2:Same H (upd H' a (zbg a)):=λb u hb=>by rw[zn (z9 hb n)];exact sm b u hb
   exact⟨_,_,_,I'.toPen e,(ok.after sm2).put (.pen zj) i,sm2.pers,q⟩
  |ret u=>obtain⟨_,_,_,_,_,z⟩:=z;exact z.elim
  |brk=>obtain⟨_,_,_,z⟩:=z;exact z.elim
  |cont=>obtain⟨_,_,_,z⟩:=z;exact z.elim⟩
def ztp(te:DTE)(g:DTG):DTS:=λDn σ=>te σ λd=>g d σ Dn.nx
theorem ztq{tg:Expr}{is:List Nat}{g:DTG}(he:DE X e te)(hg:DG X tg is g)(hs:swapsWithSole [tg] e pos.line X.env=pure false:=by rfl)(hw:swappedStores [tg] e X.env=pure none:=by rfl)
  (h1:(assignEach [tg] X.env).map (·.2) = [assign tg X.env]:=by rfl):DS X (.Assign [tg] e pos) (ztp te g) :=
 DS.of (zhs he.pe hg.pg hs hw h1) λσ H H₀ σD Dn ok q=>⟨H₀,σD,_,ok,q,λv H1 d s1 r1 q1=>⟨H₀,σD,d,_,ok.after s1,r1,q1,λσ' σD' _ ok' _ q'=>⟨σD',ok',s1.pers,q'⟩⟩⟩
def ztr(i j:Nat)(t:DTF):DTS:=λDn σ=>t σ λds=>match ds with
 |[d,e]=>Dn.nx ((σ.set i (some (.val d))).set j (some (.val e)))
 |_=>False
theorem zny{i j:Nat}{x y:Str}{a b:Expr}{px py pt:Pos}{kt k2 pt2}(hc:X.calm=true)(hN:X.N.Nodup)(hi:X.N[i]?=some x)(hj:X.N[j]?=some y)(hij:i≠j)
  (hx:X.env.scope.names.lookup x=some .local) (hy:X.env.scope.names.lookup y=some .local) (ha:DA X [a,b] tf)
  (hw:swappedStores [.Tuple [.Name x px,.Name y py] kt pt] (.Tuple [a,b] k2 pt2) X.env=pure (some [x,y]))
  (hs:swapsWithSole [.Tuple [.Name x px,.Name y py] kt pt] (.Tuple [a,b] k2 pt2) pos.line X.env=pure false:=by rfl) :
  DS X (.Assign [.Tuple [.Name x px,.Name y py] kt pt] (.Tuple [a,b] k2 pt2) pos) (ztr i j tf) :=
 DS.of (zsh hc hN hi hj hij hx hy ha.pa hw hs) λσ H H₀ σD Dn ok q=>⟨H₀,σD,_,ok,q,λvs H1 ds s1 r1 q1=>by
  match ds,r1,q1 with
  |[d,e],r1,q1=>
   cases r1 with
   |cons p1 t1=>cases t1 with
    |cons p2 t2=>
     cases t2;exact⟨_,_,rfl,_,((ok.after s1).setV p1 i).setV p2 j,s1.pers,q1⟩⟩
def znz(i j k:Nat)(t:DTF):DTS:=λDn σ=>t σ λds=>match ds with
 |[d,e,f]=>Dn.nx (((σ.set i (some (.val d))).set j (some (.val e))).set k (some (.val f)))
 |_=>False
theorem zqa{i j k:Nat}{x y z:Str}{a b c:Expr}{px py pz pt:Pos}{kt k2 pt2}(hc:X.calm=true)(hN:X.N.Nodup)(hi:X.N[i]?=some x)(hj:X.N[j]?=some y)(hk:X.N[k]?=some z)(hij:i≠j)(hik:i≠k)(hjk:j≠k)
  (hx:X.env.scope.names.lookup x=some .local) (hy:X.env.scope.names.lookup y=some .local) (hz:X.env.scope.names.lookup z=some .local) (ha:DA X [a,b,c] tf)
  (hw:swappedStores [.Tuple [.Name x px,.Name y py,.Name z pz] kt pt] (.Tuple [a,b,c] k2 pt2) X.env=pure (some [x,y,z]))
  (hs:swapsWithSole [.Tuple [.Name x px,.Name y py,.Name z pz] kt pt] (.Tuple [a,b,c] k2 pt2) pos.line X.env=pure false:=by rfl) :
  DS X (.Assign [.Tuple [.Name x px,.Name y py,.Name z pz] kt pt] (.Tuple [a,b,c] k2 pt2) pos) (znz i j k tf) :=
 DS.of (zpy hc hN hi hj hk hij hik hjk hx hy hz ha.pa hw hs) λσ H H₀ σD Dn ok q=>⟨H₀,σD,_,ok,q,λvs H1 ds s1 r1 q1=>by
  match ds,r1,q1 with
  |[d,e,f],r1,q1=>
   cases r1 with
   |cons p1 t1=>cases t1 with
    |cons p2 t2=>cases t2 with
     |cons p3 t3=>
      cases t3;exact⟨_,_,_,rfl,_,(((ok.after s1).setV p1 i).setV p2 j).setV p3 k,s1.pers,q1⟩⟩
def dIf(c:DTT)(t u:DTS):DTS:=λDn σ=>c σ λb=>if b=true then t Dn σ else u Dn σ
theorem ww{c:Expr}{a b:List Stmt}{tc:DTT}(hc:DT X c tc)(ha:DSs X a t)(hb:DSs X b u):DS X (.If c a b pos) (dIf tc t u):=⟨λpins s σ H H₀ σD Dn I ok q=>by
 refine wpAny_If (thn (hc.run pins s σ H H₀ σD _ I ok q) λd s1 zr3=>?_);obtain⟨H1,I1,sm,q1⟩:=zr3
 cases d with
 |true=>exact thn (ha.run pins s1 σ H1 H₀ σD Dn I1 (ok.after sm) (by simpa using q1)) λ_ _ z=>z.back sm.pers
 |false=>exact thn (hb.run pins s1 σ H1 H₀ σD Dn I1 (ok.after sm) (by simpa using q1)) λ_ _ z=>z.back sm.pers⟩
def zn0(c:DTT)(tb:DTS):DTS:=λDn σ=>∃Wv:Nat->DSt->Prop,(∃m,Wv m σ)/\∀m σ,Wv m σ->c σ λb=>if b=true then tb { Dn with nx:=λσ'=>∃m',m' < m/\Wv m' σ',ct:=λσ'=>∃m',m' < m/\Wv m' σ',bk:=Dn.nx } σ else Dn.nx σ
theorem zn1{c:Expr}{body:List Stmt}{tc:DTT}{tb:DTS}(hp:PassesOwn (model X.prog X.w) X.A X.env X.xe)(hc:DT X c tc)(hb:DSs X body tb):DS X (.While c body [] pos) (zn0 tc tb) :=
 DS.of (zml hp hc.pt hb.ps) λσ H H₀ σD Dn ok q=>by
  obtain⟨Wv,⟨m0,w0⟩,turn⟩:=q;refine⟨λm σ' H'=>∃σD',DOk X.K H₀ H' σD' σ'/\Pers H H'/\Wv m σD',⟨m0,σD,ok,Pers.refl _,w0⟩,?_⟩;rintro m σ' H' ⟨σD',ok',p',w'⟩;refine⟨H₀,σD',_,ok',turn m σD' w',λb H1 s1 q1=>?_⟩
  cases b with
  |true=>
   rw[if_pos rfl]at q1 ⊢;refine⟨λσ2 H2=>∃σD2,DOk X.K H₀ H2 σD2 σ2/\Pers H H2/\∃m',m' < m/\Wv m' σD2,λσ2 H2 zq95=>by obtain⟨σD2,ok2,p2,m',hm,w2⟩:=zq95;exact⟨m',hm,σD2,ok2,p2,w2⟩,H₀,σD',_,ok'.after s1,q1,λσ2 H2 σD2 ok2 p2 n2=>⟨σD2,ok2,(p'.trans s1.pers).trans p2,n2⟩,λv H2 r sm rp qr=>⟨r,sm,rp,qr⟩,λσ2 H2 σD2 ok2 p2 n2=>⟨σD2,ok2,(p'.trans s1.pers).trans p2,n2⟩,λσ2 H2 σD2 ok2 p2 n2=>⟨σD2,ok2,(p'.trans s1.pers).trans p2,n2⟩⟩
  |false=>
   rw[if_neg Bool.false_ne_true]at q1 ⊢;exact⟨σD',ok'.after s1,p'.trans s1.pers,q1⟩
theorem zld{c:DTT}{tb:DTS}{Dn:qc}{σ:DSt}(Wv:Nat->DSt->Prop)(m0:Nat)(h0:Wv m0 σ)
  (hs:∀m σ (N:DSt->Prop),Wv m σ->(∀m' σ',m' < m->Wv m' σ'->N σ')->c σ λb=>if b=true then tb { Dn with nx:=N,ct:=N,bk:=Dn.nx } σ else Dn.nx σ):zn0 c tb Dn σ :=
 ⟨Wv,⟨m0,h0⟩,λm σ w=>hs m σ _ w λm' σ' h w'=>⟨m',h,w'⟩⟩
def zdo(g:DTG)(tb:DTS)(Dn:qc):List D->DSt->Prop
 |[],σ=>Dn.nx σ
 |d::ds,σ=>g d σ λσ2=>tb { Dn with nx:=zdo g tb Dn ds,ct:=zdo g tb Dn ds,bk:=Dn.nx } σ2
theorem v4{g:DTG}{tb:DTS}{Dn:qc}(Iv:List D->DSt->Prop)(hs:∀d ds σ (N:DSt->Prop),Iv (d::ds) σ->(∀σ',Iv ds σ'->N σ')->g d σ λσ2=>tb { Dn with nx:=N,ct:=N,bk:=Dn.nx } σ2)(hd:∀σ,Iv [] σ->Dn.nx σ):∀{ds:List D}{σ:DSt},Iv ds σ->zdo g tb Dn ds σ
 |[],σ,h=>hd σ h
 |d::ds,σ,h=>hs d ds σ _ h λσ' h'=>v4 Iv hs hd h'
def zts(ti:DTF)(g:DTG)(tb:DTS):DTS:=λDn σ=>ti σ λds=>zdo g tb Dn ds σ
theorem jf{tg iter:Expr}{body:List Stmt}{ti:DTF}{is:List Nat}{g:DTG}{tb:DTS}(hp:PassesOwn (model X.prog X.w) X.A X.env X.xe)(hc:X.calm=true)(hi:DI X tg iter ti)(hg:DG X tg is g)(hb:DSs X body tb)
  (hs:∀x,foldedSetIterable iter X.env x=pure x:=by intro _;rfl):DS X (.For tg iter body [] pos) (zts ti g tb) :=
 DS.of (zsj hp hc hi.pi hg.pg hb.ps hs) λσ H H₀ σD Dn ok q=>⟨H₀,σD,_,ok,q,λJ H1 ds s1 it q1=>by
  have sub:∀{i:Nat}{d:D}{σ':DSt},ds[i]?=some d->zdo g tb Dn (ds.drop i) σ'=g d σ' (λσ2=>tb { Dn with nx:=zdo g tb Dn (ds.drop (i+1)),ct:=zdo g tb Dn (ds.drop (i+1)),bk:=Dn.nx } σ2):=λ{i d σ'} e=>by
   obtain⟨hi,e'⟩:=List.getElem?_eq_some_iff.mp e;rw[List.drop_eq_getElem_cons hi,e'];rfl
  refine⟨λi m σ' H'=>m=ds.length-i/\i<=ds.length/\Pers H1 H'/\∃σD',DOk X.K H₀ H' σD' σ'/\zdo g tb Dn (ds.drop i) σD',⟨ds.length,rfl,Nat.zero_le _,Pers.refl _,σD,ok.after s1,q1⟩,?_⟩;rintro i m σ' H' ⟨rfl,hi,pr,σD',ok',q'⟩
  by_cases hlt:i<ds.length
  ·have e:ds[i]?=some ds[i]:=by simp[hlt]
   obtain⟨go,yl⟩:=it.go H' i ds[i] pr e;rw[sub e]at q';refine .inr ⟨go,λσ2 H2=>Pers H1 H2/\∃σD2,DOk X.K H₀ H2 σD2 σ2/\zdo g tb Dn (ds.drop (i+1)) σD2,λσ2 H2 zq18=>by obtain⟨p2,σD2,ok2,q2⟩:=zq18;exact⟨ds.length-(i+1),by omega,rfl,hlt,p2,σD2,ok2,q2⟩,λx H2 y=>?_⟩;obtain⟨s2,r2⟩:=yl x H2 y;have p2:=pr.trans s2.pers;refine⟨H₀,σD',ds[i],_,ok'.after s2,r2,q',λσ3 σD3 _ ok3 _ q3=>?_⟩;exact⟨H₀,σD3,_,ok3,q3,λσ4 H4 σD4 ok4 p4 q4=>⟨p2.trans p4,σD4,ok4,q4⟩,λv H4 r sm rp qr=>⟨r,sm,rp,qr⟩,λσ4 H4 σD4 ok4 p4 q4=>⟨σD4,ok4,(s1.pers.trans p2).trans p4,q4⟩,λσ4 H4 σD4 ok4 p4 q4=>⟨p2.trans p4,σD4,ok4,q4⟩⟩
  ·have e:i=ds.length:=by omega
   subst e;rw[List.drop_length]at q';exact .inl ⟨it.stop H' pr,σD',ok',s1.pers.trans pr,q'⟩⟩
variable {ta tb:DTE}
def zqb(i:Nat)(te:DTE):DTS:=λDn σ=>match σ[i]? with
 |some (some (.own (.lst xs)))=>te σ λd=>xs.length<sizeLine/\Dn.nx (clr (σ.set i (some (.own (.lst (xs ++ [d]))))))
 |_=>False
theorem zle(i:Nat){x:Str}{p1 apos cpos:Pos}(he:DE X e te)(hN:X.N[i]?=some x:=by rfl)(hv:Vis X.env.scope x:=by first|exact Or.inl rfl|exact Or.inr (Or.inl rfl)|exact Or.inr (Or.inr rfl))(hd:(x ==("__debug__" : Str))=false:=by decide)
  (hcd:(x ==("__classdict__" : Str))=false:=by decide)
  (hbase:attributeBase (.Name x p1) "append" X.env (eval (.Name x p1) X.env)=eval (.Name x p1) X.env:=by rfl)
  (hfew:((backTo cpos (starEach (e :: []) X.env)).all (λx=>!x.1) && (backToKw cpos (keywordEach [] X.env)).all (λx=>x.1.isSome)
   && decide ((e :: []).length+([]:List Keyword).length+(if ([]:List Keyword).isEmpty then 0 else 1)<30))=true:=by rfl)
  (hline:(apos.endLine == cpos.line)=true:=by rfl) (hst:starEach (e :: []) X.env=(false,eval e X.env)::starEach [] X.env:=by rfl) (hplain:(backTo cpos (starEach [] X.env)).any (·.1)=false:=by rfl)
  (hs:swapsWith (.Call (.Attribute (.Name x p1) "append" apos) [e] [] cpos) none pos.line X.env=pure false:=by rfl):DS X (.Expr (.Call (.Attribute (.Name x p1) "append" apos) [e] [] cpos) pos) (zqb i te) :=
 DS.of (ze3 (zcj PySem.F.plainAttrs_list PySem.F.slot_list_append PySem.F.type_list_append jw (wu (i:=i) hN hv hd hcd) (yo he.pe wb hst) hbase hfew hline hst hplain) hs) λσ H H₀ σD Dn ok q=>by
  unfold zqb at q
  split at q
  ·next xs eo=>
   obtain⟨a,vs,e1,e2,r,n⟩:=ok.ownL eo;refine⟨.ref a,e1,.inl ⟨rfl,vs,SqL.of e2⟩,H₀,σD,_,ok,q,λv H1 d s1 r1 q1=>?_⟩;refine⟨a,vs,v,rfl,rfl,s1 _ _ e2,by rw[<-r.length];exact q1.1,_,(ok.after s1).write eo e1 (s1 _ _ e2) ((r.same s1).append (.cons r1 .nil)),s1.pers.trans (vo (s1 _ _ e2) rfl),q1.2⟩
  ·exact q.elim
end
def jg(N:List Str)(ws:List W):DSt:=ws.map some++List.replicate (N.length-ws.length) none
section
variable {P:Program}{w:World}{K:PySem.W.Frag}{mg:Str->Option Value}{base:Heap}
theorem DOk.begin{H:Hp}{ws:List W}{vs:List V}(r:RepWs K H ws vs)(N:List Str):DOk K H H (jg N ws) (qa N vs):=by
 refine⟨Same.refl _,[],?_,List.nodup_nil,λa ha=>by cases ha⟩;unfold jg qa;rw[<-r.length];generalize N.length-ws.length=n;have rep:∀n:Nat,Slots K H H (List.replicate n none) (List.replicate n none) []:=λn=>by
  induction n with
  |zero=>exact .nil
  |succ n ih=>exact .none ih
 induction r with
 |nil=>exact rep n
 |@cons w' v ws vs r t ih=>
  cases w' with
  |val d=>exact .val r ih
  |vw xs=>exact .vw r ih
  |vd xs=>exact .vd r ih
  |exc xs=>exact .exc r ih
  |scr ns=>obtain⟨a,rfl,r⟩:=r;exact .scr r ih
  |pen=>obtain⟨a,rfl,r⟩:=r;exact .pen r ih
  |tmp d=>exact r.elim
  |own o=>exact r.elim
theorem Fun.dok{x qual:Str}{st:Stmt}{f:Addr}{fd:FuncData}{N ps:List Str}{k:Nat}{sp:DSp}(F:Fun K x qual st f fd)(S:yb N ps (zc st))(len:∀ws Q,sp ws Q->ws.length=ps.length)
  (hbody:∀(cdv:Value) (A:Around) (outer:List Env) (s:Shared) (H:Hp) (ws:List W) (Q:Ret->Prop) (E:XK),Room k (A.deeper (envOfC qual (zc st) s.heap.objs.size f cdv))->sp ws Q ->
   ∃t,DSs (vj CX0 P w K mg base N qual (zc st) f cdv A outer s H E).nox (zh st) t/\t { nx:=λ_=>Q (.val .none),rt:=Q } (jg N ws)):FnOk P w K mg base CX0 (k+1) f fd ps (yf K sp):=by
 refine F.ok S (λvs H Q E h=>?_) λcdv A outer s H vs Q E hr h=>?_
 ·obtain⟨ws,QD,r,q,_⟩:=h;rw[<-r.length];exact len ws QD q
 ·obtain⟨ws,QD,r,q,kk⟩:=h;obtain⟨t,ht,hq⟩:=hbody cdv A outer s H ws QD E hr q;refine⟨_,ht.ps,H,_,_,DOk.begin r N,hq,λσ' H' σD' ok' p' q'=>kk .non H' (.val .none) ok'.same .non q',λv H' r' sm rp qr=>kk v H' r' sm rp qr,λ_ _ _ _ _ z=>z.elim,λ_ _ _ _ _ z=>z.elim⟩
end
def zn2:Sp:=λvs H Q _=>∃(p:Addr) (m:Int),vs = [.ref p,.int m]/\0<m/\m<10000000000000000000000000000000000000000000000000000000000000/\Pen H p/\∀(v:Int) H',0<=v->v<m->Pen H' p->But p H H'->Q (.int v) H'
def xj:DSp:=λws Q=>∃m:Int,ws = [.pen,.val (.int m)]/\0<m/\m<10000000000000000000000000000000000000000000000000000000000000/\∀v:Int,0<=v->v<m->Q (.val (.int v))
theorem ztt{P:Program}{w:World}{K:PySem.W.Frag}{mg:Str->Option Value}{base:Heap}{k:Nat}{f:Addr}{fd:FuncData}{ps:List Str}(F:FnOk P w K mg base CX0 k f fd ps zn2):FnOk P w K mg base CX0 k f fd ps (yf K xj):=by
 refine⟨λvs H Q E h=>?_,λA outer s H args us vs Q E hr e0 hb hv hs=>?_⟩
 ·obtain⟨ws,QD,rw',⟨m,rfl,hm,hM,q⟩,kk⟩:=h
  cases rw' with
  |cons r1 t=>cases t with
   |cons r2 t=>
    cases t;obtain⟨p,rfl,hp⟩:=r1;have r2:Rep K H (.int m) _:=r2
    cases r2;exact F.len [.ref p,.int m] (upd H p (.lst [.int 0,.int 0,.int 0])) (λ_ _=>True) E ⟨p,m,rfl,hm,hM,⟨0,0,0,zj⟩,λ_ _ _ _ _ _=>trivial⟩
 ·obtain⟨ws,QD,rw',⟨m,rfl,hm,hM,q⟩,kk⟩:=hs
  cases rw' with
  |cons r1 t=>cases t with
   |cons r2 t=>
    cases t;obtain⟨p,rfl,hp⟩:=r1;have r2:Rep K H (.int m) _:=r2
    cases r2;obtain⟨⟨x,y,z,tx,ty,tz,n,e⟩,_,_⟩:=e0.hok p _ hp;have mu:Mut (H p):=by rw[hp];exact trivial
    have hok1:HOk P w (upd H p (.lst [.int x,.int y,.int z])) s.heap:=e0.hok.write (h':=s.heap) mu (.inl rfl) (λb u _ q=>q) ⟨_,e⟩ ⟨by show 3<=sizeLine;decide,[_,_,_],n,.cons ⟨_,rfl⟩ (.cons ⟨_,rfl⟩ (.cons ⟨_,rfl⟩ .nil)),e⟩;have nn:∀b,H b=none->b≠p:=λb h z=>by rw[z,hp]at h;cases h
    have e1:Env0 P w K mg base A outer s (upd H p (.lst [.int x,.int y,.int z])):=⟨e0.frames,e0.mod,λb o h=>⟨(e0.bs b o h).1,by rw[zn (nn b (e0.bs b o h).2)];exact(e0.bs b o h).2⟩,e0.bsz,e0.funs,λb hb=>by rw[zn (nn b (e0.frf b hb))];exact e0.frf b hb,hok1,e0.bare⟩
    refine codeAny_mono (F.run A outer s _ args us [.ref p,.int m] (λv H'=>∃i,v=.int i/\0<=i/\i<m/\Pen H' p/\But p (upd H p (.lst [.int x,.int y,.int z])) H') E hr e1 hb hv ⟨p,m,rfl,hm,hM,⟨x,y,z,zj⟩,λv H' h1 h2 h3 h4=>⟨v,rfl,h1,h2,h3,h4⟩⟩) λr s' z=>?_
    cases r with
    |error e=>exact z
    |ok fl=>
     cases fl with
     |ret u=>
      obtain⟨v,H',os,bare,un,hok',rv,i,rfl,h1,h2,⟨a',b',c',hp'⟩,bt⟩:=z;obtain⟨zz,its,n',r',e'⟩:=hok' p _ hp';have pk:∃(x y z:Int) (tx ty tz:Tok),its = [.int x tx,.int y ty,.int z tz]:=by
       cases r' with
       |cons r1 r=>cases r with
        |cons r2 r=>cases r with
         |cons r3 r=>
          cases r;obtain⟨t1,rfl⟩:=r1;obtain⟨t2,rfl⟩:=r2;obtain⟨t3,rfl⟩:=r3;exact⟨_,_,_,_,_,_,rfl⟩
      obtain⟨x',y',z',tx',ty',tz',rfl⟩:=pk;have np:∀{b:Addr}{u:HO},H b=some u->u≠zbg p->b≠p:=λ{b u} h n z=>by rw[z,hp]at h;cases h;exact n rfl
      have hpen:∀{b:Addr},b≠p->upd H' p (zbg p) b=H' b:=λh=>zn h;refine⟨.int i,upd H' p (zbg p),os,bare,⟨λb o h n'=>un.keep b o h (by rw[zn (nn b n')];exact n'),λb o h n'=>un.slot b o h (by rw[zn (nn b n')];exact n'),λb o h n' hx=>?_,un.there,λb xs h=>?_,λb o u h=>?_,λb ps h=>?_⟩,?_,rv,kk (.int i) _ (.val (.int i)) (λb o h=>?_) (show Rep K _ (.int i) (.int i) from .int) (q i h1 h2)⟩
      ·rw[hpen (nn b n')];exact un.free b o h (by rw[zn (nn b n')];exact n') hx
      ·have nb:=np h (by unfold zbg;intro z;cases z);rw[hpen nb];exact un.tups b xs (by rw[zn nb];exact h)
      ·have nb:=np h (by unfold zbg;intro z;cases z);rw[hpen nb];exact un.frzs b o u (by rw[zn nb];exact h)
      ·have nb:=np h (by unfold zbg;intro z;cases z);obtain⟨more,e2⟩:=un.tbls b ps (by rw[zn nb];exact h);exact⟨more,by rw[hpen nb];exact e2⟩
      ·exact hok'.write (h':=s'.heap) (by rw[hp'];exact trivial) (.inl rfl) (λb u _ q=>q) ⟨_,e'⟩ (zjp e')
      ·by_cases hb:b=p
       ·subst hb;rw[hp]at h
        cases h;exact zj
       ·rw[zn hb];exact bt b o hb (by rw[zn hb];exact h)
     |next=>exact z
     |brk=>exact z
     |cont=>exact z
section
variable {prog:Program}{w:World}{A:Around}{E:Value->Shared->Prop}{s:Shared}
theorem zek{it t:Addr}{items:Array Value}(hne:t≠it):∀(n i:Nat) (s:Shared) (Q:List Value->Shared->Prop),s.heap.IsListIter it t i->s.heap.IsList t items->i+n<=items.size ->
  (∀h',h'.IsListIter it t (i+n)->Heap.SameBut it s.heap h'->Q ((items.toList.drop i).take n) { s with heap:=h' })->wpAny (model prog w) A (draw (.ref it) n) Q E s
 |0,i,s,Q,hit,_,_,hQ=>by
  show wpAny _ _ (pure []) Q E s;exact wpAny_pure (by simpa using hQ s.heap hit (Heap.SameBut.refl ..))
 |n+1,i,s,Q,hit,ht,hle,hQ=>by
  have hlt:i<items.size:=by omega
  show wpAny _ _ (pyNext (.ref it) >>= _) Q E s;refine wpAny_bind (wpAny_pyNext_list_item hit ht (x:=items[i]) (by simp[hlt]) λh₁ hit₁ hs₁=>?_);have ht1:h₁.IsList t items:=by obtain⟨o,e,r⟩:=ht;exact⟨o,(hs₁.2 t hne).trans e,r⟩
  refine wpAny_bind (wpAny_holding (zek hne n (i+1) _ _ hit₁ ht1 (by omega) λh₂ hit₂ hs₂=>wpAny_pure ?_));have hd:items.toList.drop i=items[i]::items.toList.drop (i+1):=by simp[List.drop_eq_getElem_cons,hlt]
  have:=hQ h₂ (by rw[show i+(n+1)=i+1+n by omega];exact hit₂) (hs₁.trans hs₂);rw[hd,List.take_succ_cons]at this;exact this
theorem zbj{t:Addr}{items:Array Value}{Q:List Value->Shared->Prop}(hh:A.handled=none)(ht:s.heap.IsList t items)
  (hQ:∀h',Heap.ExtBut s.heap.objs.size s.heap h'->Q items.toList { s with heap:=h' }):wpAny (model prog w) A (unpackItems (.ref t) items.size none) Q E s:=by
 have hlt:t≠s.heap.objs.size:=by obtain⟨o,ho,_⟩:=ht;exact Nat.ne_of_lt (Heap.lt_size ho)
 have push:∀o:Obj,(s.heap.push o).IsList t items:=λo=>by obtain⟨o',e,r⟩:=ht;exact⟨o',Heap.get?_push_of_some _ e,r⟩
 unfold unpackItems;refine wpAny_bind ?_
 ·unfold notIterableAtAll;refine wpAny_bind (wpAny_specialOf ht.typeIs slot_list_iter.lookup ?_);refine wpAny_pure ?_;simp only[Bool.false_eq_true,if_false];refine wpAny_bind (wpAny_holding (wpAny_pyIter_list ht ?_));refine wpAny_bind (wpAny_holding (zek hlt items.size 0 _ _ ⟨_,Heap.get?_push_size _ rfl,rfl,rfl⟩ (push _) (by omega) λh₁ hit₁ hs₁=>?_))
  have hall:List.take items.size (List.drop 0 items.toList)=items.toList:=by
   rw[List.drop_zero];exact List.take_of_length_le (by simp)
  rw[hall];rw[if_neg (by simp)];have ht₁:h₁.IsList t items:=by obtain⟨o',e,r⟩:=push { cls:=.type "list_iterator",data:=.fields #[.ref t,.int 0 0] };exact⟨o',(hs₁.2 t hlt).trans e,r⟩
  refine wpAny_bind (wpAny_holding (wpAny_pyNext_list_end hh hit₁ ht₁ (by simp) λh₂ he₂=>?_));simp only[Option.isSome_none,Bool.false_eq_true,if_false];refine wpAny_pure (hQ h₂ λb o hb e=>he₂ b o hb (hs₁.extBut b o hb (Heap.get?_push_of_some _ e)))
theorem zay{env:Env}{elts:List Expr}{x1}{pos:Pos}{t:Addr}{items:Array Value}{Q:Unit->Shared->Prop}(hh:A.handled=none)(ht:s.heap.IsList t items)
  (hn:(assignEach elts env).length=items.size) (hstar:(assignEach elts env).findIdx? (·.1)=none)
  (h:∀h',Heap.ExtBut s.heap.objs.size s.heap h'->wpAny (model prog w) A (assignInOrder ((assignEach elts env).map (·.2)) items.toList) Q E { s with heap:=h' }) :
  wpAny (model prog w) A (assign (.Tuple elts x1 pos) env (.ref t)) Q E s:=by
 rw[assign_Tuple];refine wpAny_bind (wpAny_standAt ?_);unfold unpack;rw[hn,hstar];exact wpAny_bind (wpAny_holding (zbj hh ht h))
end
section
variable {X:Cx}{tg iter e:Expr}{es:List Expr}{te:DTE}{tf:DTF}{p pos:Pos}
def zn3(n:Nat)(gs:zfi):DTG:=λd σ Q=>match d with
 |.tuple xs=>xs.length=n/\gs xs σ Q
 |.list xs=>xs.length=n/\gs xs σ Q
 |_=>False
theorem qg{k:Nat}{is:List Nat}{gs:zfi}{n:Nat}(hc:X.calm=true)(h:DGs X es is gs)(hn:(assignEach es X.env).length=n:=by rfl)(hst:(assignEach es X.env).findIdx? (·.1)=none:=by rfl):DG X (.Tuple es k pos) is (zn3 n gs):=⟨λpins s σ H H₀ σD v u d Q I ok r rp q=>by
 cases d with
 |tuple xs=>exact(ztm (k:=k) (pos:=pos) hc h hn hst).run pins s σ H H₀ σD v u _ Q I ok r rp q
 |list xs=>
  obtain⟨hl,q⟩:=q
  cases rp with
  |lst hq rr=>
   cases r;obtain⟨its,rv,ht,hz⟩:=I.list (.inl (.inr ⟨_,hq⟩));refine zay (I.ok.hd hc) ht.isList (by simp[hn,<-hl,<-rv.length,rr.length]) hst λh' hx=>?_;have I1:Inv X pins σ H { s with heap:=h' }:=I.kept (t':=s.toks) λb o e=>hx b o (Nat.ne_of_lt (Heap.lt_size e)) e;exact h.run pins _ σ H H₀ σD _ _ xs Q I1 ok (by simpa using rv) rr q
 |_=>exact q.elim⟩
variable {elt:Expr}{ifs:List Expr}{scope:Scope}{cl:List (Str×Addr)}{N' capt:List Str}{k:Nat}{js is:List Nat}{ti:DTF}{g:DTG}{tt:DTT}
theorem zlf{i:Nat}{x:Str}{pos' spos:Pos}(hN:X.N.Nodup)(hi':X.N[i]?=some x)(hx:Loc X.env.scope x)(hc:X.calm=true)(L:zdn X scope cl N' capt k js)
  (hi:DIw X tg iter ti) (hg:∀C fp s2 H2,DG (yh X N' scope cl C fp s2 H2) tg is g) (ht:∀C fp s2 H2,DTs (yh X N' scope cl C fp s2 H2) ifs tt) (he:∀C fp s2 H2,DE (yh X N' scope cl C fp s2 H2) elt te)
  (his:∀j∈is,j<k) (hsw:swapsWith (.ListComp elt [⟨tg,iter,ifs,0⟩] scope pos) (some (.Name x pos')) spos.line X.env=pure true) (hs:∀x,foldedSetIterable iter X.env x=pure x) (hf:X.fn x=true\/X.env.scope.names.lookup x=some .local)
  {pins:List (Addr×Obj)}{s:Shared}{σ:St}{H H₀:Hp}{σD:DSt}{Q:List D->Prop} (I:Inv X pins σ H s) (ok:DOk X.K H₀ H σD σ) (q:dLC k js ti g tt te σD Q) :
  wpAny (model X.prog X.w) X.A (exec (.Assign [.Name x pos'] (.ListComp elt [⟨tg,iter,ifs,0⟩] scope pos) spos) X.env) (λf s'=>f=.next/\∃a H' vs xs,Inv X pins (σ.set i (some (.ref a))) H' s'/\Same H H'/\H a=none/\H' a=some (.lst vs)/\Reps X.K H' xs vs/\Q xs) X.xe s:=by
 refine thn (zmz (wi:=cnI X.K Same ti) (g:=cnG X.K is g) (tt:=cnT X.K tt) (te:=cnE X.K te) hN hi' hx hc L hi.pi (λC fp s2 H2=>(hg C fp s2 H2).pg) (λC fp s2 H2=>(ht C fp s2 H2).pts) (λC fp s2 H2=>(he C fp s2 H2).pe) hsw hs hf pins s σ H
  { nx:=λσ' H'=>∃a vs xs,σ'=σ.set i (some (.ref a))/\Same H H'/\H a=none/\H' a=some (.lst vs)/\Reps X.K H' xs vs/\Q xs,rt:=λ_ _=>False } I ?_) λf s' z=>?_
 ·refine⟨H₀,σD,_,ok,q,λJ H1 ds s1 it q1 Dd hn=>?_⟩
  have z:=zgr (k:=k) (js:=js) (is:=is) (gL:=cnG X.K is g) (Dd:=Dd) (ok.after s1) it q1.1 (λd v σ' H' Q σ0 ok0 r0 q0=>⟨H1,σ0,d,Q,ok0,r0,q0,λσ2 σD2 l2 ok2 f2 q2=>⟨rfl,l2,f2,σD2,ok2,q2⟩⟩)
   (λv σ' H' Q Q' m zq7=>by obtain⟨a,b,c,d,e1,e2,e3,e4⟩:=zq7;exact⟨a,b,c,d,e1,e2,e3,λσ2 σD2 l o f q=>m _ _ (e4 σ2 σD2 l o f q)⟩) his hn q1.2
  obtain⟨W,w0,turn⟩:=z;refine⟨W,w0,λi m σ' H' w=>?_⟩;rcases turn i m σ' H' w with⟨st,aa,vs,xs,e,sm,n,e2,r,qd⟩|h
  ·exact .inl ⟨st,aa,vs,xs,by rw[e],s1.trans sm,s1.free n,e2,r,qd⟩
  ·exact .inr h
 ·cases f with
  |next=>obtain⟨σ',H',I',a,vs,xs,rfl,sm,n,e,r,q⟩:=z;exact⟨rfl,a,H',vs,xs,I',sm,n,e,r,q⟩
  |ret u=>obtain⟨_,_,_,_,_,z⟩:=z;exact z.elim
  |brk=>obtain⟨_,_,_,z⟩:=z;exact z.elim
  |cont=>obtain⟨_,_,_,z⟩:=z;exact z.elim
theorem zn4{i:Nat}{x:Str}{pos' spos:Pos}(hN:X.N.Nodup)(hi':X.N[i]?=some x)(hx:Loc X.env.scope x)(hc:X.calm=true)(L:zdn X scope cl N' capt k js)
  (hi:DIw X tg iter ti) (hg:∀C fp s2 H2,DG (yh X N' scope cl C fp s2 H2) tg is g) (ht:∀C fp s2 H2,DTs (yh X N' scope cl C fp s2 H2) ifs tt) (he:∀C fp s2 H2,DE (yh X N' scope cl C fp s2 H2) elt te)
  (his:∀j∈is,j<k:=by decide) (hsw:swapsWith (.ListComp elt [⟨tg,iter,ifs,0⟩] scope pos) (some (.Name x pos')) spos.line X.env=pure true:=by rfl) (hs:∀x,foldedSetIterable iter X.env x=pure x:=by intro _;rfl) (hf:X.fn x=true\/X.env.scope.names.lookup x=some .local:=by first|exact .inl rfl|exact .inr rfl|assumption) :
  DS X (.Assign [.Name x pos'] (.ListComp elt [⟨tg,iter,ifs,0⟩] scope pos) spos) (znv i (dFz (dLC k js ti g tt te))):=⟨λpins s σ H H₀ σD Dn I ok q=>by
 refine thn (zlf hN hi' hx hc L hi hg ht he his hsw hs hf I ok q) λf s' zr83=>?_;obtain⟨ef,a,H',vs,xs,I',sm,n,e,r,qd⟩:=zr83;subst ef;obtain⟨H'',J,sm',r'⟩:=je I' sm n e r;exact⟨_,H'',_,J,(ok.after sm').setV r' i,sm'.pers,qd⟩⟩
section
variable {pins:List (Addr×Obj)}{σ:St}{H:Hp}{s:Shared}
theorem RepN.reads(I:Inv X pins σ H s){d:D}{v:V}{u:Value}(h:RepN X.K H d v)(r:RelV v u):∃as,Reads s.heap u d as:=by
 refine RepN.rec (motive_1:=λd v _=>∀u:Value,RelV v u->∃as,Reads s.heap u d as) (motive_2:=λds vs _=>∀us:List Value,Vals vs us->∃as,ReadsAll s.heap us ds as) ?_ ?_ ?_ ?_ ?_ ?_ ?_ ?_ h u r
 ·intro u r;cases r;exact⟨_,.none⟩
 ·intro b u r;cases r;exact⟨_,.bool _⟩
 ·intro i u r;obtain⟨t,rfl⟩:=r;exact⟨_,.int _ _⟩
 ·intro x u r;obtain⟨t,rfl⟩:=r;exact⟨_,.str _ _⟩
 ·intro xs a vs h q ih u r
  cases r;obtain⟨its,rv,⟨o,e1,e2,n,e3⟩,_⟩:=I.tuple h;obtain⟨as,ra⟩:=ih its rv;exact⟨_,.tuple e1 e2 e3 (by simpa using ra)⟩
 ·intro xs a vs h q ih u r
  cases r;obtain⟨z,its,n,rv,e⟩:=h.ok I.hok;obtain⟨as,ra⟩:=ih its rv;exact⟨_,.list e rfl rfl (by simpa using ra)⟩
 ·intro us r;cases r;exact⟨_,.nil⟩
 ·intro d v ds vs q t i j us r
  cases r with
  |cons r1 r2=>
   obtain⟨as,ra⟩:=i _ r1;obtain⟨bs,rb⟩:=j _ r2;exact⟨_,.cons ra rb⟩
end
def zvg(X:Cx)(pins:List (Addr×Obj))(σ:St)(H:Hp)(Q:D->Prop)(u:Value)(s':Shared):Prop:=∃v H' d,Inv X pins σ H' s'/\RelV v u/\Same H H'/\RepN X.K H' d v/\Q d
structure DN(X:Cx)(e:Expr)(t:DTE):Prop where
 run:∀(pins:List (Addr×Obj)) (s:Shared) (σ:St) (H H₀:Hp) (σD:DSt) (Q:D->Prop),Inv X pins σ H s->DOk X.K H₀ H σD σ->t σD Q->wpAny (model X.prog X.w) X.A (eval e X.env) (zvg X pins σ H Q) X.xe s
structure DAn(X:Cx)(es:List Expr)(t:DTF):Prop where
 run:∀(pos:Pos) (pins:List (Addr×Obj)) (s:Shared) (σ:St) (H H₀:Hp) (σD:DSt) (Q:List D->Prop),Inv X pins σ H s->DOk X.K H₀ H σD σ->t σD Q ->
  wpAny (model X.prog X.w) X.A (spliced (backTo pos (starEach es X.env))) (λus s'=>∃vs H' ds,Inv X pins σ H' s'/\Vals vs us/\Same H H'/\RepNs X.K H' ds vs/\Q ds) X.xe s
def cnN(K:PySem.W.Frag)(t:DTE):TE:=λσ H Q=>∃H₀ σD QD,DOk K H₀ H σD σ/\t σD QD/\∀v H' d,Same H H'->RepN K H' d v->QD d->Q v H'
def zwi(K:PySem.W.Frag)(t:DTF):TA:=λσ H Q=>∃H₀ σD QD,DOk K H₀ H σD σ/\t σD QD/\∀vs H' ds,Same H H'->RepNs K H' ds vs->QD ds->Q vs H'
theorem DN.pe{t:DTE}(h:DN X e t):PE X e (cnN X.K t):=λpins s σ H Q I zq63=>by obtain⟨H₀,σD,QD,ok,q,k⟩:=zq63;exact thn (h.run pins s σ H H₀ σD QD I ok q) λu s' zq50=>by obtain⟨v,H',d,I',r,sm,rp,qd⟩:=zq50;exact⟨v,H',I',r,k v H' d sm rp qd⟩
theorem DAn.pa{t:DTF}(h:DAn X es t):PA X es (zwi X.K t):=λpos pins s σ H Q I zq68=>by obtain⟨H₀,σD,QD,ok,q,k⟩:=zq68;exact thn (h.run pos pins s σ H H₀ σD QD I ok q) λus s' zq63=>by obtain⟨vs,H',ds,I',r,sm,rp,qd⟩:=zq63;exact⟨vs,H',I',r,k vs H' ds sm rp qd⟩
theorem DN.of{t:DTE}{t':TE}(h:PE X e t')(k:∀σ H H₀ σD QD,DOk X.K H₀ H σD σ->t σD QD->t' σ H (λv H'=>∃d,Same H H'/\RepN X.K H' d v/\QD d)):DN X e t :=
 ⟨λpins s σ H H₀ σD Q I ok q=>thn (h pins s σ H _ I (k σ H H₀ σD Q ok q)) λu s' zq80=>by obtain⟨v,H',I',r,d,sm,rp,qd⟩:=zq80;exact⟨v,H',d,I',r,sm,rp,qd⟩⟩
def ztu(t:DTE):DTE:=λσ Q=>t σ λd=>d.canLay0=true/\Q d
theorem zn5{d:D}(c:d.canLay0=true):∀kvs,d ≠ .dict kvs:=λkvs e=>by subst e;simp[PyData.canLay0]at c
theorem DE.dn{t:DTE}(h:DE X e t):DN X e (ztu t):=⟨λpins s σ H H₀ σD Q I ok q=>thn (h.run pins s σ H H₀ σD _ I ok q) λu s' zq35=>by obtain⟨v,H',d,I',r,sm,rp,qd⟩:=zq35;exact⟨v,H',d,I',r,sm,rp.now (zn5 qd.1) qd.1,qd.2⟩⟩
def zj0(i:Nat):DTE:=λσ Q=>match σ[i]? with
 |some (some (.val d))=>d.canLay0=true/\Q d
 |some (some (.own (.lst xs)))=>PyData.canLayAll0 xs=true/\Q (.list xs)
 |some (some (.vw xs))=>PyData.canLayAll0 xs=true/\Q (.list xs)
 |some (some (.tmp d))=>Q d
 |_=>False
theorem zii(i:Nat){x:Str}{pos:Pos}(hN:X.N[i]?=some x:=by rfl)(hv:Vis X.env.scope x:=by first|exact Or.inl rfl|exact Or.inr (Or.inl rfl)|exact Or.inr (Or.inr rfl))(hd:(x ==("__debug__" : Str))=false:=by decide)
  (hcd:(x ==("__classdict__" : Str))=false:=by decide):DN X (.Name x pos) (zj0 i):=by
 refine DN.of (wu (i:=i) hN hv hd hcd) λσ H H₀ σD QD ok q=>?_;unfold zj0 at q
 split at q
 ·next d e=>
  obtain⟨v,e1,r⟩:=ok.val e;exact⟨v,e1,d,Same.refl _,r.now (zn5 q.1) q.1,q.2⟩
 ·next xs e=>
  obtain⟨a,vs,e1,e2,r,_⟩:=ok.ownL e;exact⟨.ref a,e1,.list xs,Same.refl _,.lst (.inl e2) (r.now q.1),q.2⟩
 ·next xs e=>
  obtain⟨v,e1,a,vs,rfl,e2,r⟩:=ok.vw e;exact⟨.ref a,e1,.list xs,Same.refl _,.lst e2 (r.now q.1),q.2⟩
 ·next d e=>
  obtain⟨v,e1,r⟩:=ok.tmp e;exact⟨v,e1,d,Same.refl _,r,q⟩
 ·exact q.elim
theorem zaz:DAn X [] zm8:=⟨λpos pins s σ H H₀ σD Q I ok q=>thn (wb pos pins s σ H (λvs H'=>vs = []/\H'=H) I ⟨rfl,rfl⟩) λus s' zq49=>by obtain⟨vs,H',I',r,e1,e2⟩:=zq49;subst e1 e2;exact⟨[],H',[],I',r,Same.refl _,.nil,q⟩⟩
theorem qw{t:DTE}{r:DTF}(ha:DN X e t)(hr:DAn X es r)(hs:starEach (e::es) X.env=(false,eval e X.env)::starEach es X.env:=by rfl):DAn X (e::es) (zgl t r):=⟨λpos pins s σ H H₀ σD Q I ok q=>by
 refine thn (yo ha.pe hr.pa hs pos pins s σ H (λvs H'=>∃ds,Same H H'/\RepNs X.K H' ds vs/\Q ds) I ?_) λus s' zq20=>by obtain⟨vs,H',I',r,ds,sm,rp,qd⟩:=zq20;exact⟨vs,H',ds,I',r,sm,rp,qd⟩
 exact⟨H₀,σD,_,ok,q,λv H1 d s1 r1 q1=>⟨H₀,σD,_,ok.after s1,q1,λvs H2 ds s2 r2 q2=>⟨d::ds,s1.trans s2,.cons (r1.same s2) r2,q2⟩⟩⟩⟩
theorem RepNs.length{K:PySem.W.Frag}{H:Hp}{ds:List D}{vs:List V}(h:RepNs K H ds vs):ds.length=vs.length:=h.ind (P:=λds vs=>ds.length=vs.length) rfl λ_ _ _ _ _ _ j=>congrArg (·+1) j
theorem ztv{t:DTF}(h:DAn X es t):DN X (.List es pos) (dFz (zpz t)) :=
 DN.of (zh0 h.pa) λσ H H₀ σD QD ok q=>⟨H₀,σD,_,ok,q,λvs H1 ds s1 r1 q1=>⟨by rw[<-r1.length];exact q1.1,λp hp=>⟨.list ds,s1.trans (zy hp _),.lst (.inl zj) (r1.same (zy hp _)),q1.2⟩⟩⟩
end
section
variable {X:Cx}{tg iter e:Expr}{es:List Expr}{te:DTE}{tf:DTF}{p pos:Pos}
def zn6:List D->(D->Prop)->Prop
 |[.list xs],Q=>∃ns,j8 xs=some ns/\0<ns.length/\∀m:Int,m∈ns->(∀a∈ns,m<=a)->Q (.int m)
 |_,_=>False
def zn7:List D->(D->Prop)->Prop
 |[.list xs],Q=>∃ns,j8 xs=some ns/\0<ns.length/\∀m:Int,m∈ns->(∀a∈ns,a<=m)->Q (.int m)
 |_,_=>False
theorem zlg(hc:X.calm=true):w6 X (.builtin "min") (λvs H Q=>∃(l:Addr) (ns:List Int),vs = [.ref l]/\SqL X.K H l (ns.map V.int)/\0<ns.length/\∀m:Int,m∈ns->(∀a∈ns,m<=a)->Q (.int m) H):=by
 intro pins s σ H xs us Q I rv h;obtain⟨l,ns,rfl,hq,hne,q⟩:=h;obtain⟨u,rfl,r1⟩:=rv.one
 cases r1;obtain⟨its,rvs,pl,hz⟩:=I.list hq;have hi:IntsAre its ns:=vq rvs;obtain⟨xs,e⟩:=hi.allInts.items;have hns:ns=xs.toList.map (·.1):=by rw[<-hi.numsOf,<-nums_intItems,<-e]
 have hsz:0<xs.size:=by have h3:=hne;rw[hns,List.length_map,Array.length_toList]at h3;exact h3
 have hl:s.heap.IsList l (intItems xs):=by rw[<-e];exact pl.isList
 refine min_intList (I.ok.hd hc) hl hsz λv h' tk hv hk=>?_;obtain⟨t,rfl⟩:=intItems_at hv;obtain⟨h1,h2⟩:=argBest_lt (numAt xs) (xs.size-1);refine⟨.int _,H,I.kept hk,⟨t,rfl⟩,q _ ?_ λa ha=>?_⟩
 ·rw[hns,numAt_eq];exact getD_mem (by rw[List.length_map,Array.length_toList];omega)
 ·rw[hns]at ha;obtain⟨j,hj,rfl⟩:=mem_getD ha;rw[List.length_map,Array.length_toList]at hj;rw[<-numAt_eq];exact h2 j (by omega)
theorem zlh(hc:X.calm=true):w6 X (.builtin "max") (λvs H Q=>∃(l:Addr) (ns:List Int),vs = [.ref l]/\SqL X.K H l (ns.map V.int)/\0<ns.length/\∀m:Int,m∈ns->(∀a∈ns,a<=m)->Q (.int m) H):=by
 intro pins s σ H xs us Q I rv h;obtain⟨l,ns,rfl,hq,hne,q⟩:=h;obtain⟨u,rfl,r1⟩:=rv.one
 cases r1;obtain⟨its,rvs,pl,hz⟩:=I.list hq;have hi:IntsAre its ns:=vq rvs;obtain⟨xs,e⟩:=hi.allInts.items;have hns:ns=xs.toList.map (·.1):=by rw[<-hi.numsOf,<-nums_intItems,<-e]
 have hsz:0<xs.size:=by have h3:=hne;rw[hns,List.length_map,Array.length_toList]at h3;exact h3
 have hl:s.heap.IsList l (intItems xs):=by rw[<-e];exact pl.isList
 refine max_intList (I.ok.hd hc) hl hsz λv h' tk hv hk=>?_;obtain⟨t,rfl⟩:=intItems_at hv;obtain⟨h1,h2⟩:=argBest_gt (numAt xs) (xs.size-1);refine⟨.int _,H,I.kept hk,⟨t,rfl⟩,q _ ?_ λa ha=>?_⟩
 ·rw[hns,numAt_eq];exact getD_mem (by rw[List.length_map,Array.length_toList];omega)
 ·rw[hns]at ha;obtain⟨j,hj,rfl⟩:=mem_getD ha;rw[List.length_map,Array.length_toList]at hj;rw[<-numAt_eq];exact h2 j (by omega)
theorem zn8(hc:X.calm=true):CallD X (.builtin "min") zn6:=CallD.of (zlg hc) λvs H ds Q rd q=>by
 match ds,q,rd with
 |[.list xs],q,rd=>
  obtain⟨v,rfl,r⟩:=rd.one;obtain⟨a,vs,rfl,h,r⟩:=r.list.sq;obtain⟨ns,e,hl,q⟩:=q
  cases jy r e;exact⟨a,ns,rfl,h,hl,λm h1 h2=>⟨_,Same.refl _,.int,q m h1 h2⟩⟩
theorem ztw(hc:X.calm=true):CallD X (.builtin "max") zn7:=CallD.of (zlh hc) λvs H ds Q rd q=>by
 match ds,q,rd with
 |[.list xs],q,rd=>
  obtain⟨v,rfl,r⟩:=rd.one;obtain⟨a,vs,rfl,h,r⟩:=r.list.sq;obtain⟨ns,e,hl,q⟩:=q
  cases jy r e;exact⟨a,ns,rfl,h,hl,λm h1 h2=>⟨_,Same.refl _,.int,q m h1 h2⟩⟩
end
section
variable {prog:Program}{w:World}{A:Around}{E:Value->Shared->Prop}{s:Shared}
theorem ztx{b:Bool}{it l:Addr}{items:Array Value}(hh:A.handled=none)(hne:l≠it):Draws prog w A it [it,l] items.size (λi x=>items[i]?=some x) (λi h=>zIt b h it l i/\zSq b h l items) where
 live:=λi h st=>by
  obtain⟨o,e,_⟩:=st.1.own;exact⟨o,e⟩
 frame:=λi h h' st k=>⟨st.1.at λo e=>k it (by simp) o e,by
  cases b
  ·obtain⟨o,e,r⟩:=(show h.IsList l items from st.2);exact(show h'.IsList l items from⟨o,k l (by simp) o e,r⟩)
  ·obtain⟨o,e,r⟩:=(show h.IsTuple l items from st.2);exact(show h'.IsTuple l items from⟨o,k l (by simp) o e,r⟩)⟩
 item:=λi s Q E hi st hQ=>by
  refine zh6 st.1 st.2 (x:=items[i]) (by simp[hi]) λh' hit' hs'=>?_;refine hQ _ h' s.toks (by simp[hi]) ⟨hit',?_⟩ hs'
  cases b
  ·obtain⟨o,e,r⟩:=(show s.heap.IsList l items from st.2);exact(show h'.IsList l items from⟨o,(hs'.2 l hne).trans e,r⟩)
  ·obtain⟨o,e,r⟩:=(show s.heap.IsTuple l items from st.2);exact(show h'.IsTuple l items from⟨o,(hs'.2 l hne).trans e,r⟩)
 done:=λs Q E st hE=>zed hh st.1 st.2 (by simp) hE
theorem zgt(b:Bool)(l:Addr)(items:Array Value):
  Meets (Builtin.«enumerate.__new__» ⟨[.type "enumerate",.ref l],[]⟩) (λ_ R s=>zSq b s.heap l items /\
   R (.ok (.ret (.ref (s.heap.push (zOb b l)).objs.size)))
    { s with heap:=(s.heap.push (zOb b l)).push { cls:=.type "enumerate",data:=.fields #[.none,.bool false,.ref s.heap.objs.size,rawInt 0,.none,.none] } }) :=
 .of_wp λprog w A R s h=>by
  obtain⟨hp,g,d,tk,os⟩:=s;obtain⟨hl,h⟩:=h;have hsub:=sub_enumerate
  wp_walk
  refine wpAny_stack_any λst=>wpAny_pure ?_
  split
  ·rename_i c _ _ _ _ _
   cases (c == Value.type "enumerate")
   ·wp_walk using zm4 hl
    exact⟨_,rfl,h⟩
   ·wp_walk using zm4 hl
    exact⟨_,rfl,h⟩
  ·wp_walk using zm4 hl
   exact⟨_,rfl,h⟩
theorem zij{b:Bool}{l:Addr}{items:Array Value}{Q:Value->Shared->Prop}(hL:zSq b s.heap l items)
  (h:∀h',IsEnum h' (s.heap.objs.size+1) s.heap.objs.size 0 .none->zIt b h' s.heap.objs.size l 0->h'.objs.size=s.heap.objs.size+2 ->
   (∀b o,s.heap.get? b=some o->h'.get? b=some o)->Q (.ref (s.heap.objs.size+1)) { s with heap:=h' }) :
  wpAny (model prog w) A (call (.type "enumerate") [.ref l]) Q E s:=by
 refine callType_new F.called_enumerate (by decide) (F.typeCall_enumerate_1 _) (F.newCall_enumerate_1 _) (λobj=>F.args_object_init_2 obj _) F.entry_enumerate_new (zgt b l items) ⟨hL,?_⟩;have hz:(s.heap.push (zOb b l)).objs.size=s.heap.objs.size+1:=Heap.size_push ..;show _/\_;rw[hz];have he:IsEnum ((s.heap.push (zOb b l)).push
   { cls:=.type "enumerate",data:=.fields #[.none,.bool false,.ref s.heap.objs.size,rawInt 0,.none,.none] }) (s.heap.objs.size+1) s.heap.objs.size 0 .none:=by
  have:=Heap.get?_push_size (s.heap.push (zOb b l))
   (o:={ cls:=.type "enumerate",data:=.fields #[.none,.bool false,.ref s.heap.objs.size,rawInt 0,.none,.none] }) rfl
  rw[hz]at this;exact this
 have hi:zIt b ((s.heap.push (zOb b l)).push { cls:=.type "enumerate",data:=.fields #[.none,.bool false,.ref s.heap.objs.size,rawInt 0,.none,.none] }) s.heap.objs.size l 0:=by
  have g:((s.heap.push (zOb b l)).push { cls:=.type "enumerate",data:=.fields #[.none,.bool false,.ref s.heap.objs.size,rawInt 0,.none,.none] }).get? s.heap.objs.size=some (zOb b l):=Heap.get?_push_of_some _ (Heap.get?_push_size _ rfl)
  cases b
  ·exact⟨_,g,rfl,rfl⟩
  ·exact⟨_,g,rfl,rfl⟩
 exact⟨⟨_,he,rfl⟩,h _ he hi (by rw[Heap.size_push,hz]) λb o x=>Heap.get?_push_of_some _ (Heap.get?_push_of_some _ x)⟩
end
def zqc(b:Bool)(K:PySem.W.Frag)(a:Addr):It :=
 ⟨λi H=>∃xs x,SqG b K H a xs/\xs[i]?=some x,λi H v H'=>∃p x,H p=none/\v=.ref p/\H'=upd H p (.tup [.int i,x])/\∀xs,SqG b K H a xs->xs[i]?=some x,λi H=>∃xs,SqG b K H a xs/\xs.length<=i⟩
theorem zik{P:Program}{w:World}{K:PySem.W.Frag}{b:Bool}{elts:List Expr}{x1}{tpos:Pos}{l e it:Addr}(hne:e≠it)(hle:l≠it)(hel:e≠l):
  zf9 P w K (.Tuple elts x1 tpos) (zqc b K l) [e,it] e (λi h=>(∃old,IsEnum h e it i old)/\zIt b h it l i) where
 mem:=by simp
 obj:=λi h st c hb=>by
  obtain⟨⟨old,he⟩,h1⟩:=st;simp only[List.mem_cons,List.not_mem_nil,or_false]at hb;rcases hb with rfl|rfl
  ·exact⟨_,he,λv q=>by cases (show Data.fields _=Data.cell v from q)⟩
  ·exact h1.own
 keep:=λi h h' st k=>by
  obtain⟨⟨old,he⟩,h1⟩:=st;exact⟨⟨old,k _ (by simp) _ he⟩,h1.at λo e=>k it (by simp) o e⟩
 item:=by
  intro X hP hw hK hc i pins s σ H E I hf st hg;subst hP hw hK;obtain⟨xs,x,hq,hx⟩:=hg;obtain⟨⟨old,he⟩,h1⟩:=st;obtain⟨its,rv,p,hz⟩:=I.sqG hq;obtain⟨u,hu,ru⟩:=rv.get hx;have hlt:i<its.toArray.size:=by have:=(List.getElem?_eq_some_iff.mp hu).1;simpa using this
  refine wpAny_pyNext_enum_itemD (ztx (b:=b) (A:=X.A.in1) (I.ok.hd hc) hle) he ⟨h1,p⟩ hlt hne (by simp[hne,hel]) λu' h' tk hu' he' h1' hp' hsz hk=>⟨_,rfl,?_⟩
  have eu:u'=u:=by
   have e1:its.toArray[i]?=some u:=by simpa using hu
   rw[e1]at hu';exact(Option.some.inj hu').symm
  subst eu;refine wpAny_letOwnedTupleGo_enum he' λh'' he'' hsb=>?_;have ne:s.heap.objs.size≠e:=λq=>by have:=Heap.lt_size he;rw[<-q]at this;exact Nat.lt_irrefl _ this
  have hp2:=(hsb.2 _ ne).trans hp';have nb:∀c o,s.heap.get? c=some o->c≠s.heap.objs.size:=λc o e=>Nat.ne_of_lt (Heap.lt_size e);have I1:Inv X pins σ (upd H s.heap.objs.size (.tup [.int i,x])) { s with heap:=h'',toks:=tk+1 }:=by
   refine I.turnedNew (ch:=[e,it]) hf (Nat.le_refl _) (λb u hb e=>?_) ⟨by simp[sizeLine_eq],[.int i tk,u'],.cons ⟨_,rfl⟩ (.cons ru .nil),?_⟩
   ·simp only[List.mem_cons,List.not_mem_nil,or_false,not_or]at hb;exact(hsb.2 b hb.1).trans (hk b u hb.1 hb.2 e)
   ·exact⟨_,hp2,rfl,⟨_,rfl⟩,rfl⟩
  refine⟨.ref s.heap.objs.size,_,I1,rfl,⟨_,x,I.hok.fresh (Nat.le_refl _),rfl,rfl,λxs' h=>by rw[I.sqG_inj h hq];exact hx⟩,⟨⟨_,he''⟩,?_⟩,λb hb=>?_⟩
  ·exact h1'.1.at λo e'=>(hsb.2 _ (Ne.symm hne)).trans e'
  ·rw[zn]
   ·exact(hf b hb).1
   ·intro q;subst q;simp only[List.mem_cons,List.not_mem_nil,or_false]at hb;obtain⟨o1,e1,_⟩:=h1.own;rcases hb with q|q
    ·exact nb _ _ he q.symm
    ·exact nb _ _ e1 q.symm
 done:=by
  intro X hP hw hK hc i pins s σ H E I hf st hg;subst hP hw hK;obtain⟨xs,hq,hl⟩:=hg;obtain⟨⟨old,he⟩,h1⟩:=st;obtain⟨its,rv,p,hz⟩:=I.sqG hq;have e1:=rv.length;have hT:s.TypeIs (.ref e) "enumerate" :=⟨_,he,rfl⟩
  unfold pyNext;refine wpAny_bind (wpAny_attempt (wpAny_callSpecial?_slot (name:=Str.ofString "__next__") hT F.slot_enumerate_next
   (wpAny_call_entry F.slot_enumerate_next hT F.entry_enumerate_next ?_ (F.args_enumerate_next_1 _))))
  show wpAny _ _ (field (.ref e) 2 >>= _) _ _ _;refine wpAny_bind (wpAny_field he rfl (x:=.ref it) rfl ?_);refine wpAny_bind (zed (b:=b) (A:=X.A.in1) (I.ok.hd hc) h1 p (by simp;omega) λh' x he' hx'=>?_);obtain⟨o,ho,hcc⟩:=hx';refine wpAny_bind (wpAny_isInstance (T := "StopIteration") (b:=true) ⟨o,ho,hcc⟩ isSubtype_stop ?_);refine wpAny_pure ⟨rfl,?_⟩;refine I.turnedL (t':=s.toks) (ch:=[e,it]) hf λb u hb e=>?_;simp only[List.mem_cons,List.not_mem_nil,or_false,not_or]at hb;exact he' b u hb.2 e
 self:=λ_ _ _ _ _ st h=>by
  obtain⟨⟨old,he⟩,h1⟩:=st;exact wpAny_pyIter_enum he h
section
variable {X:Cx}{a:Expr}{t:DTF}{p pos:Pos}
theorem zn9{elts:List Expr}{x1}{tpos:Pos}{ta:TA}(hg:Gl X "enumerate")(hm:X.mg "enumerate" = none)(ha:PA X [a] ta)(hs:starEach [a] X.env = [(false,eval a X.env)]:=by rfl):
  PI X (.Tuple elts x1 tpos) (.Call (.Name "enumerate" p) [a] [] pos) (λσ H R=>ta σ H λvs H1=>∃b a,vs = [.ref a]/\(∃xs,SqG b X.K H1 a xs)/\R (zqc b X.K a) H1):=by
 intro pins s σ H R I h;refine Call_ (kc I hg hm boot_enumerate (PyProof.Rows.callWith_type1 (thn (ha pos pins s σ H _ I h) λus s1 ⟨vs,H1,I1,r1,q1⟩=>?_) hs rfl));obtain⟨b,l,e,⟨xs,hq⟩,q⟩:=q1;subst e;obtain⟨v1,rfl,r1'⟩:=r1.one
 cases r1';obtain⟨its,rv,p,hz⟩:=I1.sqG hq;have hlt:=p.lt;refine zij p λh' he hi hsz hk=>wpAny_pyIter_enum he ?_;have I2:Inv X pins σ H1 { s1 with heap:=h' }:=I1.kept (t':=s1.toks) hk;refine⟨_,[s1.heap.objs.size+1,s1.heap.objs.size],_,_,H1,rfl,I2,zik (Nat.ne_of_gt (Nat.lt_succ_self _)) (Nat.ne_of_lt hlt) (Nat.ne_of_gt (Nat.lt_succ_of_lt hlt)),⟨⟨_,he⟩,hi⟩,λb hb=>?_,q⟩;have hb':s1.heap.objs.size<=b:=by
  simp only[List.mem_cons,List.not_mem_nil,or_false]at hb;rcases hb with rfl|rfl <;> omega
 exact I1.fpOk hb' (I1.hok.fresh hb')
theorem zqd{K:PySem.W.Frag}{Kp:Hp->Hp->Prop}{H1:Hp}{b:Bool}{a:Addr}{xs:List D}{vs:List V}(kp:∀H,Kp H1 H->SqG b K H a vs/\Reps K H xs vs):ItOk K Kp (zqc b K a) H1 (qf 0 xs) where
 go:=λH i d k e=>by
  obtain⟨hs,r⟩:=kp H k;obtain⟨y,e1,rfl⟩:=zeg e;obtain⟨v,e2,r1⟩:=r.get e1;refine⟨⟨vs,v,hs,e2⟩,λx H' yl=>?_⟩;obtain⟨p,w,hp,rfl,rfl,y⟩:=yl;have:=y vs hs;rw[e2]at this
  cases this;refine⟨zy hp _,.tup (SqT.of zj) (.cons ?_ (.cons (r1.same (zy hp _)) .nil))⟩;rw[Nat.zero_add];exact .int
 stop:=λH k=>by
  obtain⟨hs,r⟩:=kp H k;exact⟨vs,hs,by rw[zeh,r.length];exact Nat.le_refl _⟩
def zil(t:DTF):DTF:=λσ Q=>t σ λds=>match ds with
 |[.list xs]=>Q (qf 0 xs)
 |[.tuple xs]=>Q (qf 0 xs)
 |_=>False
theorem zgu{elts:List Expr}{x1}{tpos:Pos}(hg:Gl X "enumerate")(hm:X.mg "enumerate" = none)(ha:DA X [a] t)(hs:starEach [a] X.env = [(false,eval a X.env)]:=by rfl):
  DI X (.Tuple elts x1 tpos) (.Call (.Name "enumerate" p) [a] [] pos) (zil t) :=
 ⟨λpins s σ H R I ⟨H₀,σD,QD,ok,q,k⟩=>zn9 hg hm ha.pa hs pins s σ H R I ⟨H₀,σD,_,ok,q,λvs H1 ds s1 r1 q1=>by
  have key:∀d xs,ds = [d]->(d=.list xs\/d=.tuple xs)->QD (qf 0 xs)->∃b a,vs = [.ref a]/\(∃xs,SqG b X.K H1 a xs)/\R (zqc b X.K a) H1:=λd xs e1 e2 q2=>by
   subst e1
   cases r1 with
   |cons r t=>
    cases t;obtain⟨b,l,ws,rfl,kk⟩:=r.seqP e2;exact⟨b,l,rfl,⟨ws,(kk _ (Pers.refl _)).1⟩,k _ _ _ s1 (zqd λH' pr=>kk H' pr) q2⟩
  split at q1
  ·exact key _ _ rfl (.inl rfl) q1
  ·exact key _ _ rfl (.inr rfl) q1
  ·exact q1.elim⟩⟩
end
theorem zj1{f:D->(Option D->Prop)->Prop}(Pv:D->D->Prop):∀{ds:List D}{Q:List D->Prop},(∀d∈ds,∀k:Option D->Prop,(∀y,Pv d y->k (some y))->f d k)->(∀ys,Paired Pv ds ys->Q ys)->lcD f ds Q
 |[],Q,_,q=>q [] .nil
 |d::ds,Q,h,q=>h d List.mem_cons_self _ λy hy=>zj1 Pv (λe he=>h e (List.mem_cons_of_mem _ he)) λys hys=>q (y::ys) (.cons hy hys)
theorem zfk{α:Type}{f:D->(Option D->Prop)->Prop}(enc:α->D)(F:α->Option D){as:List α}{Q:List D->Prop}(h:∀a∈as,∀k:Option D->Prop,k (F a)->f (enc a) k)(q:Q (as.filterMap F)):lcD f (as.map enc) Q:=by
 induction as generalizing Q with
 |nil=>exact q
 |cons a as ih=>
  refine h a List.mem_cons_self _ (ih (λe he=>h e (List.mem_cons_of_mem _ he)) ?_);rw[List.filterMap_cons]at q
  cases e:F a with
  |none=>rw[e]at q;exact q
  |some y=>rw[e]at q;exact q
theorem wd{α:Type}{f:D->(Option D->Prop)->Prop}(enc:α->D)(F:α->D){as:List α}{Q:List D->Prop}(h:∀a∈as,∀k:Option D->Prop,k (some (F a))->f (enc a) k)(q:Q (as.map F)):lcD f (as.map enc) Q :=
 zfk enc (λa=>some (F a)) h (by rw[List.filterMap_eq_map'];exact q)
theorem zcp{f:D->(Option D->Prop)->Prop}{lo:Int}{n:Nat}{Q:List D->Prop}(Pv:D->Prop)(h:∀d,∀k:Option D->Prop,(∀y,Pv y->k (some y))->f d k)(q:∀ys:List D,ys.length=n->(∀y∈ys,Pv y)->Q ys):lcD f (xb lo n) Q:=by
 refine zj1 (λ_ y=>Pv y) (λd _ k hk=>h d k hk) λys hys=>q ys ?_ ?_
 ·have:=Paired.length hys;rw[<-this];simp[xb]
 ·clear q h;generalize xb lo n=ds at hys
  induction hys with
  |nil=>intro y hy;cases hy
  |cons r t ih=>intro y hy;rcases List.mem_cons.mp hy with rfl|hy;exact r;exact ih y hy
theorem zfl{α:Type}{Pv:α->Prop}{enc:α->D}:∀{ys:List D},(∀y∈ys,∃a,y=enc a/\Pv a)->∃as:List α,ys=as.map enc/\∀a∈as,Pv a
 |[],_=>⟨[],rfl,λa ha=>by cases ha⟩
 |y::ys,h=>by
  obtain⟨a,rfl,pa⟩:=h y List.mem_cons_self;obtain⟨as,rfl,pas⟩:=zfl λz hz=>h z (List.mem_cons_of_mem _ hz);exact⟨a::as,rfl,λb hb=>by rcases List.mem_cons.mp hb with rfl|hb;exact pa;exact pas b hb⟩
theorem zim{α:Type}{xs:List α}{k:Int}(h0:0<=k)(h1:k<xs.length):∃v,atI xs k=some v/\v∈xs:=zh7 h0 h1
theorem zcq{α:Type}(x:α)(xs:List α):atI (x::xs) 0=some x:=by
 have:=qm (xs:=x::xs) (j:=0) (v:=x) rfl;simpa using this
theorem zb9{α:Type}(x y:α)(xs:List α):atI (x::y::xs) 1=some y:=by
 have:=qm (xs:=x::y::xs) (j:=1) (v:=y) rfl;simpa using this
theorem zrt{xs:List D}{k:Int}{Q:D->Prop}(h0:0<=k)(h1:k<xs.length)(h:∀x∈xs,Q x):∃d,atI xs k=some d/\Q d:=by
 obtain⟨v,e,m⟩:=zh7 h0 h1;exact⟨v,e,h v m⟩
theorem zvh{ns:List Int}{k lo hi:Int}{Q:D->Prop}(h0:0<=k)(h1:k<ns.length)(hb:∀n∈ns,lo<=n/\n<=hi)(h:∀n:Int,lo<=n->n<=hi->Q (.int n)):∃d,atI (ns.map PyData.int) k=some d/\Q d :=
 zrt h0 (by simpa using h1) λx hx=>by
  obtain⟨n,hn,rfl⟩:=List.mem_map.mp hx;exact h n (hb n hn).1 (hb n hn).2
theorem zcr{α:Type}(enc:α->D)(xs:List α)(lo hi:Option Int):∃ys:List α,y9 (xs.map enc) lo hi=ys.map enc/\(∀y∈ys,y∈xs)/\ys.length<=xs.length:=by
 refine⟨(xs.drop (HT.sIx xs.length 0 lo)).take (HT.sIx xs.length xs.length hi-HT.sIx xs.length 0 lo),?_,λy hy=>List.mem_of_mem_drop (List.mem_of_mem_take hy),?_⟩
 ·unfold y9;rw[List.length_map,List.map_take,List.map_drop]
 ·rw[List.length_take,List.length_drop];omega
theorem jh(xs:List D)(n:Nat):y9 xs none (some (n:Int))=xs.take n:=by
 unfold y9;rw[HT.sIx_none,HT.sIx_nat];simp
structure Sh(d:D)(n k:Nat):Prop where
 can:d.canLay0=true
 sho:d.showable=true
 dep:d.depth<=k
 len:d.shown.length<=n
theorem Sh.mono{d:D}{n k n' k':Nat}(h:Sh d n k)(h1:n<=n')(h2:k<=k'):Sh d n' k':=⟨h.can,h.sho,Nat.le_trans h.dep h2,Nat.le_trans h.len h1⟩
theorem zty{i:Int}(h:i.natAbs<10 ^ 40):i.natAbs.log2<1920:=by
 by_cases h0:i.natAbs=0
 ·rw[h0];decide
 ·exact(Nat.log2_lt h0).mpr (Nat.lt_of_lt_of_le h (Nat.le_trans (by decide:10 ^ 40<=2 ^ 200) (Nat.pow_le_pow_right (by decide) (by decide))))
theorem Sh.int{i:Int}(h:i.natAbs<10 ^ 40):Sh (.int i) 41 0 :=
 ⟨rfl,by simp only[PyData.showable];exact decide_eq_true (zty h),Nat.le_refl _,by
  have:=int_text_length_le10 (a:=i) (k:=40) (by decide) h;simp only[PyData.shown];show(Str.ofString (toString i)).length<=41;rw[PySem.ofString_length];exact this⟩
theorem Sh.intB{i:Int}(h1 : -1000000000000000000000000000000000000000<=i)(h2:i<=1000000000000000000000000000000000000000):Sh (.int i) 41 0:=Sh.int (by omega)
theorem zbk:∀{xs:List D}{n k:Nat},(∀x∈xs,Sh x n k)->PyData.canLayAll0 xs=true
 |[],_,_,_=>rfl
 |x::xs,n,k,h=>by simp only[PyData.canLayAll0,(h x List.mem_cons_self).can,zbk λy hy=>h y (List.mem_cons_of_mem _ hy),Bool.and_self]
theorem zbl:∀{xs:List D}{n k:Nat},(∀x∈xs,Sh x n k)->PyData.showableAll xs=true
 |[],_,_,_=>rfl
 |x::xs,n,k,h=>by simp only[PyData.showableAll,(h x List.mem_cons_self).sho,zbl λy hy=>h y (List.mem_cons_of_mem _ hy),Bool.and_self]
theorem zbm:∀{xs:List D}{n k:Nat},(∀x∈xs,Sh x n k)->PyData.depthAll xs<=k
 |[],_,_,_=>Nat.zero_le _
 |x::xs,n,k,h=>by
  simp only[PyData.depthAll];exact Nat.max_le.mpr ⟨(h x List.mem_cons_self).dep,zbm λy hy=>h y (List.mem_cons_of_mem _ hy)⟩
theorem zbn:∀{xs:List D}{n k:Nat},(∀x∈xs,Sh x n k)->((PyData.shownAll xs).map (·.length)).sum<=xs.length * n
 |[],_,_,_=>by simp[PyData.shownAll]
 |x::xs,n,k,h=>by
  simp only[PyData.shownAll,List.map_cons,List.sum_cons,List.length_cons];have h1:=(h x List.mem_cons_self).len;have h2:=zbn λy hy=>h y (List.mem_cons_of_mem _ hy);rw[Nat.succ_mul];omega
theorem v7:∀xs:List D,(PyData.shownAll xs).length=xs.length
 |[]=>rfl
 |x::xs=>by simp only[PyData.shownAll,List.length_cons,v7 xs]
theorem Sh.lst{xs:List D}{n k m:Nat}(h:∀x∈xs,Sh x n k)(hl:xs.length<=m):Sh (.list xs) (m *(n+2)+3) (k+1) where
 can:=by simpa[PyData.canLay0]using zbk h
 sho:=by simpa[PyData.showable]using zbl h
 dep:=by simp only[PyData.depth];have:=zbm h;omega
 len:=by
  simp only[PyData.shown];have h1:=listText_len_le (PyData.shownAll xs);have h2:=zbn h;rw[v7]at h1;have h3:xs.length *(n+2)<=m *(n+2):=Nat.mul_le_mul_right _ hl;rw[Nat.mul_add]at h3;omega
theorem Sh.tup{xs:List D}{n k m:Nat}(h:∀x∈xs,Sh x n k)(hl:xs.length<=m):Sh (.tuple xs) (m *(n+2)+3) (k+1) where
 can:=by simpa[PyData.canLay0]using zbk h
 sho:=by simpa[PyData.showable]using zbl h
 dep:=by simp only[PyData.depth];have:=zbm h;omega
 len:=by
  simp only[PyData.shown];have h1:=tupleText_len_le (PyData.shownAll xs);have h2:=zbn h;rw[v7]at h1;have h3:xs.length *(n+2)<=m *(n+2):=Nat.mul_le_mul_right _ hl;rw[Nat.mul_add]at h3;omega
theorem Sh.lay{d:D}{n k:Nat}(h:Sh d n k)(hk:k<=64):Lay d:=by
 unfold Lay SeqAt.shaped;rw[Bool.and_eq_true];exact⟨h.can,decide_eq_true (Nat.le_trans h.dep hk)⟩
theorem Sh.all{d:D}{n k:Nat}(h:Sh d n k)(hk:k<=64)(hn:n<=16777216):Lay d/\d.showable=true/\d.shown.length<=sizeLine:=⟨h.lay hk,h.sho,Nat.le_trans h.len (by rw[sizeLine_eq];exact hn)⟩
theorem Lay.int(i:Int):Lay (.int i):=rfl
theorem zcs{d:D}(h:Lay d):PyData.eqv d d=true:=SeqAt.eqv_refl d h.can
theorem zj2(i j:Int):PyData.eqv (.int i) (.int j)=decide (i=j):=by
 have:PyData.eqv (.int i) (.int j)=(i == j):=by simp only[PyData.eqv]
 rw[this]
 by_cases h:i=j
 ·subst h;simp
 ·rw[decide_eq_false h];exact beq_eq_false_iff_ne.mpr h
theorem qx(ns:List Int):Lay (.list (ns.map PyData.int)):=by
 have h:∀ns:List Int,PyData.canLayAll0 (ns.map PyData.int)=true/\PyData.depthAll (ns.map PyData.int)=0:=λns=>by
  induction ns with
  |nil=>exact⟨rfl,rfl⟩
  |cons n ns ih=>simp[PyData.canLayAll0,PyData.depthAll,PyData.canLay0,PyData.depth,ih.1,ih.2]
 unfold Lay SeqAt.shaped;simp[PyData.canLay0,PyData.depth,(h ns).1,(h ns).2]
theorem j9{m:Int}{Q:Ret->Prop}(h1:0<m)(h2:m<10000000000000000000000000000000000000000000000000000000000000)(q:∀v:Int,0<=v->v<m->Q (.val (.int v))):xj [.pen,.val (.int m)] Q:=⟨m,rfl,h1,h2,q⟩
theorem jz{α:Type}{p:α->Prop}{a:α}{l:List α}(h:p a)(t:∀y∈l,p y):∀y∈a::l,p y:=λy hy=>(List.mem_cons.mp hy).elim (λe=>by rw[e];exact h) (t y)
theorem zoa{α:Type}{p:α->Prop}:∀y∈([]:List α),p y:=λy hy=>by cases hy
section
variable {X:Cx}
theorem zqe{pos:Pos}:DE X (.Dict [] [] pos) (dC (.dict [])):=⟨λpins s σ H H₀ σD Q I ok q=>thn (zpx pins s σ H (λv H'=>∃p,v=.ref p/\H p=none/\H'=upd H p (.dK [])) I (λp hp=>⟨p,rfl,hp,rfl⟩)) λu s' ⟨v,H',I',r,p,e1,hp,e2⟩=>by
 subst e1 e2;obtain⟨o,J⟩:=I'.frzK (vs:=[]) zj;exact⟨.ref p,_,.dict [],J,r,λb z hb=>by rw[zn (z9 hb hp),zn (z9 hb hp)];exact hb,.dic zj .nil,q⟩⟩
end
end L2
set_option maxHeartbeats 4000000
namespace L2
open PySem PySem.Spec PyProof.Rows
section
variable {X:Cx}{a d e:Expr}{ta:DTF}{td te:DTE}{p pos kp:Pos}
def zob(te:DTE):DTE:=λσ Q=>te σ λd=>match d with
 |.list xs=>Q (.list xs.reverse)
 |.tuple xs=>Q (.tuple xs.reverse)
 |_=>False
theorem zqf{te:TE}{p2 p3 p4:Pos}{j}(he:PE X e te):PE X (.Subscript e (.Slice none none (some (.UnaryOp .USub (.Constant (.int 1) j p3) p4)) p2) pos) (λσ H Q=>te σ H λx H1=>(∃l xs,x=.ref l/\SqL X.K H1 l xs/\∀p,H1 p=none->Q (.ref p) (upd H1 p (.lst xs.reverse)))\/∃l xs,x=.ref l/\SqT X.K H1 l xs/\∀p,H1 p=none->Q (.ref p) (upd H1 p (.tup xs.reverse))):=by
 intro pins s σ H Q I h;refine Subscript_ (thn (he pins s σ H _ I h) λv s1 ⟨x,H1,I1,r1,q1⟩=>?_);refine wpAny_Slice ?_;rw[evalPart_none];refine wpAny_pure (wpAny_pure ?_);rw[evalPart_some];refine thn (zri zmp w4 pins s1 σ H1 (λz H=>z=.int (-1)/\H=H1) I1 ⟨1,rfl,rfl,rfl⟩) λu s2 ⟨z,H2,I2,r2,e1,e2⟩=>?_;subst e1 e2;obtain⟨tk,rfl⟩:=r2;have I4:Inv X pins σ H2 { s2 with heap:=s2.heap.push { cls:=.type "slice",data:=.fields #[.none,.none,.int (-1) tk] } }:=I2.kept (t':=s2.toks) λb ob q=>Heap.get?_push_of_some _ q;rcases q1 with⟨l,xs,rfl,hx,q⟩ |⟨l,xs,rfl,hx,q⟩
 ·cases r1;obtain⟨its,r,pl,hz⟩:=I4.list hx;have hlen:its.toArray.size=xs.length:=by rw[List.size_toArray];exact r.length.symm
  refine tail_any (ops:=[.ref l,.ref s2.heap.objs.size]) pl.isList.typeIs list_getitem_lookup (wpAny_getItem_list_slice (lo:=none) (hi:=none) (st:=some (-1)) pl.isList (Heap.IsSliceOf.new ..) .none .none (.int _ _) (by decide) ?_ (by rw[hlen];exact hz)) (by with_unfolding_all rfl);rw[PySem.W.krv_pick];refine⟨.ref _,_,I4.laid (t':=s2.toks) (o:=.lst xs.reverse) (λb ob q=>Heap.get?_push_of_some _ q) (Nat.le_refl _) ?_,rfl,q _ (I4.hok.fresh (Nat.le_refl _))⟩;exact⟨by rw[List.length_reverse];exact hz,its.reverse,0,r.reverse,Heap.get?_push_size _ rfl⟩
 ·cases r1;obtain⟨its,r,ht,hz⟩:=I4.tuple hx;have hlen:its.toArray.size=xs.length:=by rw[List.size_toArray];exact r.length.symm
  refine tail_any (ops:=[.ref l,.ref s2.heap.objs.size]) ht.typeIs PyProof.Rows.slot_tuple_getitem.lookup (zpw ht (Heap.IsSliceOf.new ..) (by rw[hlen];exact hz) ?_) (by with_unfolding_all rfl);refine⟨.ref _,_,I4.laid (t':=s2.toks) (o:=.tup xs.reverse) (λb ob q=>Heap.get?_push_of_some _ q) (Nat.le_refl _) ?_,rfl,q _ (I4.hok.fresh (Nat.le_refl _))⟩;exact⟨by rw[List.length_reverse];exact hz,_,r.reverse,TupD.new _ _⟩
theorem zqg{p2 p3 p4:Pos}{j}(he:DV X e te):DE X (.Subscript e (.Slice none none (some (.UnaryOp .USub (.Constant (.int 1) j p3) p4)) p2) pos) (zob te):=⟨λpins s σ H H₀ σD Q I ok q=>by
 refine thn (zqf he.pe pins s σ H (λv H'=>(∃vs xs a,v=.ref a/\Same H H'/\H a=none/\H' a=some (.lst vs)/\Reps X.K H' xs vs/\Q (.list xs))\/∃d,Same H H'/\Rep X.K H' d v/\Q d) I ?_) λu s' ⟨v,H',I',r,z⟩=>?_
 ·refine⟨H₀,σD,_,ok,q,λv H1 d s1 r1 q1=>?_⟩
  cases d with
  |list xs=>
   obtain⟨b,vs,rfl,hb,r⟩:=r1.list.sq;exact .inl ⟨b,vs,rfl,hb,λp hp=>.inl ⟨_,_,p,rfl,s1.trans (zy hp _),s1.free hp,zj,r.reverse.same (zy hp _),q1⟩⟩
  |tuple xs=>
   obtain⟨b,vs,rfl,hb,r⟩:=r1.tuple;exact .inr ⟨b,vs,rfl,hb,λp hp=>.inr ⟨_,s1.trans (zy hp _),.tup (SqT.of zj) (r.reverse.same (zy hp _)),q1⟩⟩
  |_=>exact q1.elim
 ·rcases z with⟨vs,xs,a,rfl,sm,n,e,rp,qd⟩ |⟨d,sm,rp,qd⟩
  ·cases r;obtain⟨H2,J,sm2,rp2⟩:=je I' sm n e rp;exact⟨.ref a,H2,_,J,rfl,sm2,rp2,qd⟩
  ·exact⟨v,H',d,I',r,sm,rp,qd⟩⟩
end
theorem sliceD_take0(xs:List D){n:Int}(h:0<=n):y9 xs none (some n)=xs.take n.toNat:=by
 have:=jh xs n.toNat;rw[Int.toNat_of_nonneg h]at this;exact this
theorem sliceD_dropLast(xs:List D):y9 xs none (some (-1))=xs.dropLast:=by
 unfold y9;rw[HT.sIx_none];have:HT.sIx xs.length xs.length (some (-1))=xs.length-1:=by
  unfold HT.sIx;simp
  try omega
 rw[this];simp[List.dropLast_eq_take]
theorem zin(xs:List D)(lo hi:Option Int):(y9 xs lo hi).length<=xs.length:=by
 obtain⟨ys,e,_,h⟩:=zcr id xs lo hi;rw[List.map_id]at e;rw[e,List.length_map];exact h
theorem zli(ns:List Int):Lay (.tuple (ns.map PyData.int)):=by
 have:=qx ns;unfold Lay SeqAt.shaped at this ⊢;simpa[PyData.canLay0,PyData.depth]using this
mutual
def NB:D->Bool
 |.none=>true
 |.bool _=>false
 |.int _=>true
 |.str _=>true
 |.list xs=>NBs xs
 |.tuple xs=>NBs xs
 |.dict _=>false
def NBs:List D->Bool
 |[]=>true
 |x::xs=>NB x && NBs xs
end
mutual
theorem zj3:∀(x y:D),NB x=true->NB y=true->(PyData.eqv x y=true↔x=y)
 |.none,.none,_,_=>by simp[PyData.eqv]
 |.none,.int _,_,_=>by simp[PyData.eqv]
 |.none,.str _,_,_=>by simp[PyData.eqv]
 |.none,.list _,_,_=>by simp[PyData.eqv]
 |.none,.tuple _,_,_=>by simp[PyData.eqv]
 |.int _,.none,_,_=>by simp[PyData.eqv]
 |.int _,.int _,_,_=>by simp[PyData.eqv]
 |.int _,.str _,_,_=>by simp[PyData.eqv]
 |.int _,.list _,_,_=>by simp[PyData.eqv]
 |.int _,.tuple _,_,_=>by simp[PyData.eqv]
 |.str _,.none,_,_=>by simp[PyData.eqv]
 |.str _,.int _,_,_=>by simp[PyData.eqv]
 |.str _,.str _,_,_=>by simp[PyData.eqv]
 |.str _,.list _,_,_=>by simp[PyData.eqv]
 |.str _,.tuple _,_,_=>by simp[PyData.eqv]
 |.list _,.none,_,_=>by simp[PyData.eqv]
 |.list _,.int _,_,_=>by simp[PyData.eqv]
 |.list _,.str _,_,_=>by simp[PyData.eqv]
 |.list xs,.list ys,h1,h2=>by simp only[PyData.eqv,PyData.list.injEq];exact eqvs_iff xs ys h1 h2
 |.list _,.tuple _,_,_=>by simp[PyData.eqv]
 |.tuple _,.none,_,_=>by simp[PyData.eqv]
 |.tuple _,.int _,_,_=>by simp[PyData.eqv]
 |.tuple _,.str _,_,_=>by simp[PyData.eqv]
 |.tuple _,.list _,_,_=>by simp[PyData.eqv]
 |.tuple xs,.tuple ys,h1,h2=>by simp only[PyData.eqv,PyData.tuple.injEq];exact eqvs_iff xs ys h1 h2
theorem eqvs_iff:∀(xs ys:List D),NBs xs=true->NBs ys=true->(PyData.eqvAll xs ys=true↔xs=ys)
 |[],[],_,_=>by simp[PyData.eqvAll]
 |[],_::_,_,_=>by simp[PyData.eqvAll]
 |_::_,[],_,_=>by simp[PyData.eqvAll]
 |x::xs,y::ys,h1,h2=>by
  simp only[NBs,Bool.and_eq_true]at h1 h2;simp only[PyData.eqvAll,Bool.and_eq_true,List.cons.injEq];rw[zj3 x y h1.1 h2.1,eqvs_iff xs ys h1.2 h2.2]
end
theorem zj4:∀{xs:List D},(∀x∈xs,NB x=true)->NBs xs=true
 |[],_=>rfl
 |x::xs,h=>by
  simp only[NBs,Bool.and_eq_true];exact⟨h x List.mem_cons_self,zj4 λy hy=>h y (List.mem_cons_of_mem _ hy)⟩
theorem zgv(ns:List Int):NBs (ns.map PyData.int)=true:=zj4 λx hx=>by
 obtain⟨i,_,rfl⟩:=List.mem_map.mp hx;rfl
theorem zgw{g:DTG}{tb:DTS}{Dn:qc}{ds:List D}{σ:DSt}(S:DSt->Prop)(h0:S σ)(hs:∀d∈ds,∀σ (N:DSt->Prop),S σ->(∀σ',S σ'->N σ')->g d σ λσ2=>tb { Dn with nx:=N,ct:=N,bk:=Dn.nx } σ2)(hd:∀σ,S σ->Dn.nx σ):zdo g tb Dn ds σ:=by
 refine v4 (λds' σ=>(∀d∈ds',d∈ds)/\S σ) ?_ (λσ h=>hd σ h.2) ⟨λ_ h=>h,h0⟩;rintro d ds' σ N ⟨h1,h2⟩ k;exact hs d (h1 d List.mem_cons_self) σ N h2 λσ' h'=>k σ' ⟨λx hx=>h1 x (List.mem_cons_of_mem _ hx),h'⟩
def zio:D->(D->Prop)->Prop
 |.bool b,Q=>Q (.str (if b=true then "True" else "False"))
 |d,Q=>Lay d/\d.showable=true/\d.shown.length<=sizeLine/\Q (.str d.shown)
def ziq(t:DTF):DTE:=λσ Q=>t σ λds=>match ds with
 |[d]=>zio d Q
 |_=>False
section
variable {X:Cx}{e:Expr}{p pos:Pos}
theorem za0{k:Nat}{t:DTF}(hr:Room k X.A)(hg:Gl X "repr")(hm:X.mg "repr" = none)(hv:bootBuiltins "repr" = some (.builtin "repr"))(ha:DAn X [e] t)(he:starEach [e] X.env=(false,eval e X.env)::starEach [] X.env:=by rfl):DE X (.Call (.Name "repr" p) [e] [] pos) (ziq t):=by
 have hc:w6 X (.builtin "repr") (λvs H Q=>∃d v,vs = [v]/\RepN X.K H d v/\zio d λr=>∃x,r=.str x/\∀H',H'=H->Q (.str x) H'):=λpins s σ H xs us Q I rv ⟨d,v,e,r,q⟩=>by
  subst e;obtain⟨u,rfl,r1⟩:=rv.one;have gen:Lay d->d.showable=true->d.shown.length<=sizeLine->Q (.str d.shown) H->(∃a,u=.ref a)->wpAny (model X.prog X.w) X.A (call (.builtin "repr") [u]) (EP X pins σ Q) X.xe s:=λh1 h2 h3 h4 ⟨a,ea⟩=>by
   subst ea;obtain⟨as,rd⟩:=r.reads I r1;have hu:=hr.un;have hd:=h1.deep;refine repr_of_reads' rd h2 (PyData.noDict_hsm ?_) hr.gd (by omega) (λ_ _ e=>e) (λh' u tk hk=>⟨.str d.shown,H,I.kept hk,⟨_,rfl⟩,h4⟩) h3;exact PyData.hasDict_of_canLay _ h1.can
  cases r with
  |bl=>
   cases r1;obtain⟨x,e,q⟩:=q
   cases e;exact PySem.P.repr_of_bool ⟨.str _,H,I.tok _,⟨_,rfl⟩,q H rfl⟩
  |non=>
   cases r1;obtain⟨_,_,_,x,e,q⟩:=q
   cases e;exact PySem.P.repr_of_none ⟨.str _,H,I.tok _,⟨_,rfl⟩,q H rfl⟩
  |int=>
   obtain⟨t,rfl⟩:=r1;obtain⟨_,h2,_,x,e,q⟩:=q
   cases e;exact PySem.P.repr_of_int (of_decide_eq_true (by simpa[PyData.showable]using h2)) ⟨.str _,H,I.tok _,⟨_,rfl⟩,q H rfl⟩
  |str=>
   obtain⟨t,rfl⟩:=r1;obtain⟨_,_,h3,x,e,q⟩:=q
   cases e;exact PySem.P.repr_of_str ⟨.str _,H,I.tok _,⟨_,rfl⟩,q H rfl⟩ h3
  |tup h r=>
   obtain⟨h1,h2,h3,x,e,q⟩:=q
   cases e;exact gen h1 h2 h3 (q H rfl) ⟨_,by cases r1;rfl⟩
  |lst h r=>
   obtain⟨h1,h2,h3,x,e,q⟩:=q
   cases e;exact gen h1 h2 h3 (q H rfl) ⟨_,by cases r1;rfl⟩
 refine DE.of (qe hc hg hm hv ha.pa (by decide) (by decide) he rfl) λσ H H₀ σD QD ok q=>⟨H₀,σD,_,ok,q,λvs H1 ds s1 r1 q1=>?_⟩
 match ds,r1,q1 with
 |[d],r1,q1=>
  cases r1 with
  |cons r t=>
   cases t;refine⟨d,_,rfl,r,?_⟩
   cases d with
   |bool b=>exact⟨_,rfl,λH' e=>⟨_,by subst e;exact s1,.str,q1⟩⟩
   |_=>exact⟨q1.1,q1.2.1,q1.2.2.1,_,rfl,λH' e=>⟨_,by subst e;exact s1,.str,q1.2.2.2⟩⟩
end
theorem Sh.rep{d:D}{n k:Nat}{Q:D->Prop}(h:Sh d n k)(hk:k<=64)(hn:n<=16777216)(hb:∀b,d ≠ .bool b)(q:Q (.str d.shown)):zio d Q:=by
 obtain⟨h1,h2,h3⟩:=h.all hk hn
 cases d with
 |bool b=>exact absurd rfl (hb b)
 |_=>exact⟨h1,h2,h3,q⟩
end L2
namespace SQ
open PySem PyProof.Rows
set_option autoImplicit false
section
variable (prog:Program)(w:World)(A:Around)(s:Shared)(κ:KeyKind)(kd:SortKind)
def zbo:Prop:=∀(E:Value->Shared->Prop) (x y:Value) (a b:κ.α) (Q:Bool->Shared->Prop),κ.keyOf x=some a->κ.keyOf y=some b->Q (κ.blt a b) s->wpAny (model prog w) A (keyLt' kd x y) Q E s
end
structure SG(kd:SortKind)(a₀:Array Keyed)(st:SortSt):Prop where
 perm:(arrOf st).Perm a₀
 kind:kindOf st=kd
 fail:failedOf st=none
theorem SG.sz{kd:SortKind}{a₀:Array Keyed}{st:SortSt}(g:SG kd a₀ st):(arrOf st).size=a₀.size:=g.perm.size_eq
theorem SG.arr{kd:SortKind}{a₀:Array Keyed}{st:SortSt}(g:SG kd a₀ st){xs:Array Keyed}(p:xs.Perm (arrOf st)):SG kd a₀ (setArr st xs):=⟨p.trans g.perm,g.kind,g.fail⟩
structure Mv(lo hi:Nat)(st st':SortSt):Prop where
 out:∀k,(k<lo\/hi<=k)->(arrOf st')[k]?=(arrOf st)[k]?
 pend:pendingOf st'=pendingOf st
theorem Mv.refl(lo hi:Nat)(st:SortSt):Mv lo hi st st:=⟨λ_ _=>rfl,rfl⟩
theorem Mv.trans{lo hi:Nat}{a b c:SortSt}(h1:Mv lo hi a b)(h2:Mv lo hi b c):Mv lo hi a c:=⟨λk hk=>(h2.out k hk).trans (h1.out k hk),h2.pend.trans h1.pend⟩
abbrev Up(κ:KeyKind)(xs:Array Keyed)(lo n:Nat):Prop:=∀i j,lo<=i->i<=j->j<lo+n->κ.kle (KK κ xs i) (KK κ xs j)
abbrev Dn(κ:KeyKind)(xs:Array Keyed)(lo n:Nat):Prop:=∀i j,lo<=i->i<=j->j<lo+n->κ.kle (KK κ xs j) (KK κ xs i)
theorem j0{st:SortSt}{i j lo hi:Nat}(hj:j<=(arrOf st).size)(h1:lo<=i)(h2:j<=hi):Mv lo hi st (setArr st (mirror (arrOf st) i j ((j-i) / 2))) :=
 ⟨λk hk=>by
  show(mirror (arrOf st) i j ((j-i) / 2))[k]?=_;rw[getElem?_mirror_all hj,if_neg (by omega)],rfl⟩
section
variable {prog:Program}{w:World}{A:Around}{E:Value->Shared->Prop}{s:Shared}{κ:KeyKind}{kd:SortKind}{a₀:Array Keyed}
theorem SG.key{st:SortSt}(g:SG kd a₀ st)(h0:KeysOf κ a₀){i:Nat}(hi:i<a₀.size):∃x p,(arrOf st)[i]?=some (x,p)/\κ.keyOf x=some (KK κ (arrOf st) i):=by
 have l:i<(arrOf st).size:=by rw[g.sz];exact hi
 obtain⟨a,ha⟩:=h0 ((arrOf st)[i]) ((Array.perm_iff_toList_perm.mp g.perm).mem_iff.mp (by simp));have e:(arrOf st)[i]?=some (arrOf st)[i]:=getElem?_pos _ i l;refine⟨(arrOf st)[i].1,(arrOf st)[i].2,e,?_⟩;rw[ha];unfold KK;rw[e];simp[ha]
theorem zwj{st:SortSt}{x y:Keyed}{a b:κ.α}{Q:Option Bool->SortSt->Prop}(L:zbo prog w A s κ kd)(hk:kindOf st=kd)(ha:κ.keyOf x.1=some a)(hb:κ.keyOf y.1=some b)(q:Q (some (κ.blt a b)) st):
  wpS (model prog w) A E s (lt' x y) Q st:=by
 rw[lt'_eq];refine wpS_bind (wpS_get ?_);rw[hk];exact wpS_bind (wpS_lift (wpAny_attempt (L _ x.1 y.1 a b _ ha hb ⟨rfl,wpS_pure q⟩)))
theorem zoc{st:SortSt}{xs:Array Keyed}{i:Nat}{p:Keyed}{Q:Keyed->SortSt->Prop}(e:xs[i]?=some p)(q:Q p st):wpS (model prog w) A E s (elem' xs i) Q st:=by
 rw[elem'_eq,e];exact wpS_pure q
theorem zct{st:SortSt}{i j:Nat}{Q:Option Bool->SortSt->Prop}(L:zbo prog w A s κ kd)(g:SG kd a₀ st)(h0:KeysOf κ a₀)(hi:i<a₀.size)(hj:j<a₀.size)
  (q:Q (some (κ.blt (KK κ (arrOf st) i) (KK κ (arrOf st) j))) st):wpS (model prog w) A E s (ltAt' i j) Q st:=by
 obtain⟨x,p,e1,k1⟩:=g.key h0 hi;obtain⟨y,r,e2,k2⟩:=g.key h0 hj;rw[ltAt'_eq];refine wpS_bind (wpS_get ?_);exact wpS_bind (zoc e1 (wpS_bind (zoc e2 (zwj L g.kind k1 k2 q))))
theorem zj5{st:SortSt}{i j:Nat}{Q:Unit->SortSt->Prop}(q:Q () (setArr st (mirror (arrOf st) i j ((j-i) / 2)))):wpS (model prog w) A E s (reverseSlice' i j) Q st:=by
 rw[reverseSlice'_eq];exact wpS_modify q
def zcu(lo a m:Nat):StateT SortSt Sem (Option (Option Nat)×Nat) :=
 forIn [a:m] ((none,a):Option (Option Nat)×Nat) λ_ c=>do
  let o <-ltAt' (lo+c.snd) (lo+c.snd-1)
  match o with
  |some less=>if less=true then pure (ForInStep.done (none,c.snd)) else pure (ForInStep.yield (none,c.snd+1))
  |_=>pure (ForInStep.done (some none,c.snd))
def zcv(lo n m:Nat):StateT SortSt Sem (Option Nat):=do
 reverseSlice' lo (lo+n)
 let c <-zcu lo n m
 match c.fst with
 |some r=>pure r
 |none=>pure (some c.snd)
def zfm(lo n m:Nat):StateT SortSt Sem (Option (Option Nat)×Nat×Nat) :=
 forIn [n:m] ((none,n,0):Option (Option Nat)×Nat×Nat) λ_ c=>do
  let o <-ltAt' (lo+c.snd.fst) (lo+c.snd.fst-1)
  match o with
  |some less=>
   if less=true then
    if c.snd.snd > 0 then do
     reverseSlice' (lo+c.snd.fst-(c.snd.snd+1)) (lo+c.snd.fst)
     pure (ForInStep.yield (none,c.snd.fst+1,0))
    else pure (ForInStep.yield (none,c.snd.fst+1,0))
   else do
    let o <-ltAt' (lo+c.snd.fst-1) (lo+c.snd.fst)
    match o with
    |some more=>
     if more=true then pure (ForInStep.done (none,c.snd.fst,c.snd.snd))
     else pure (ForInStep.yield (none,c.snd.fst+1,c.snd.snd+1))
    |_=>pure (ForInStep.done (some none,c.snd.fst,c.snd.snd))
  |_=>pure (ForInStep.done (some none,c.snd.fst,c.snd.snd))
def zgx(lo n m:Nat):StateT SortSt Sem (Option Nat):=do
 liftM (rule "list.sort.descending-run")
 let c <-zfm lo (n+1) m
 match c.fst with
 |some r=>pure r
 |none=>
  if c.snd.snd > 0 then do
   reverseSlice' (lo+c.snd.fst-(c.snd.snd+1)) (lo+c.snd.fst)
   zcv lo c.snd.fst m
  else zcv lo c.snd.fst m
theorem zb2(lo m:Nat):countRun' lo m=(do
  let c <-zcu lo 1 m
  match c.fst with
  |some r=>pure r
  |none=>
   if (c.snd == m)=true then pure (some c.snd)
   else if c.snd > 1 then do
    let o <-ltAt' lo (lo+c.snd-1)
    match o with
    |some rose=>if rose=true then pure (some c.snd) else do
      reverseSlice' lo (lo+c.snd)
      zgx lo c.snd m
    |_=>pure none
   else zgx lo c.snd m):=by
 rw[countRun'_eq];unfold zgx zcv zfm zcu;dsimp only;congr 1
 funext c
 obtain⟨r,n⟩:=c
 cases r with
 |some r=>rfl
 |none=>
  dsimp only
  split
  ·rfl
  ·split
   ·congr 1
    funext x
    cases x with
    |none=>rfl
    |some rose=>
     dsimp only
     split
     ·rfl
     ·congr 1
      funext _
      congr 1;funext _;congr 1;congr 1;funext c2;obtain⟨r2,n2,q2⟩:=c2;cases r2 with
      |some r2=>rfl
      |none=>
       dsimp only
       split
       ·congr 1;funext _;congr 1;funext _;congr 1;funext c3;obtain⟨r3,n3⟩:=c3;cases r3 <;> rfl
       ·congr 1;funext _;congr 1;funext c3;obtain⟨r3,n3⟩:=c3;cases r3 <;> rfl
   ·congr 1;funext _;congr 1;congr 1;funext c2;obtain⟨r2,n2,q2⟩:=c2;cases r2 with
    |some r2=>rfl
    |none=>
     dsimp only
     split
     ·congr 1;funext _;congr 1;funext _;congr 1;funext c3;obtain⟨r3,n3⟩:=c3;cases r3 <;> rfl
     ·congr 1;funext _;congr 1;funext c3;obtain⟨r3,n3⟩:=c3;cases r3 <;> rfl
end
end SQ
namespace SQ
open PySem PyProof.Rows
set_option autoImplicit false
section
variable {prog:Program}{w:World}{A:Around}{E:Value->Shared->Prop}{s:Shared}{κ:KeyKind}{kd:SortKind}{a₀:Array Keyed}
theorem Up.next{xs:Array Keyed}{lo n:Nat}(h:Up κ xs lo n)(h1:1<=n)(c:κ.blt (KK κ xs (lo+n)) (KK κ xs (lo+n-1))=false):Up κ xs lo (n+1):=λi j a b d=>by
 by_cases e:j<lo+n
 ·exact h i j a b e
 ·have ej:j=lo+n:=by omega
  subst ej
  by_cases e2:i=lo+n
  ·subst e2;exact KeyOrd.kle_refl _
  ·exact KeyOrd.kle_trans (h i (lo+n-1) a (by omega) (by omega)) c
theorem zvi{st:SortSt}{lo a m:Nat}{Q:Option (Option Nat)×Nat->SortSt->Prop}(L:zbo prog w A s κ kd)(h0:KeysOf κ a₀)(g:SG kd a₀ st)(hm:lo+m<=a₀.size)(ha:1<=a)(hu:Up κ (arrOf st) lo a)(ham:a<=m)
  (q:∀n,a<=n->n<=m->Up κ (arrOf st) lo n->(n=m\/κ.klt (KK κ (arrOf st) (lo+n)) (KK κ (arrOf st) (lo+n-1)))->Q (none,n) st):wpS (model prog w) A E s (zcu lo a m) Q st:=by
 unfold zcu;refine wpS_forRange (I:=λx c st'=>st'=st/\c=(none,x)/\Up κ (arrOf st) lo x) (λx c st' hx1 hx2 h=>?_) (λc st' h=>?_) ⟨rfl,rfl,hu⟩
 ·obtain⟨rfl,rfl,hx⟩:=h;dsimp only;refine wpS_bind (zct L g h0 (by omega) (by omega) ?_)
  cases cb:κ.blt (KK κ (arrOf st') (lo+x)) (KK κ (arrOf st') (lo+x-1)) with
  |true=>exact wpS_pure (q x hx1 (by omega) hx (.inr cb))
  |false=>exact wpS_pure ⟨rfl,rfl,hx.next (by omega) cb⟩
 ·obtain⟨rfl,rfl,hx⟩:=h;rw[show max a m=m by omega]at hx ⊢;exact q m ham (Nat.le_refl _) hx (.inl rfl)
theorem zru{st st0:SortSt}{lo n m:Nat}{Q:Option Nat->SortSt->Prop}(L:zbo prog w A s κ kd)(h0:KeysOf κ a₀)(g:SG kd a₀ st)(hm:lo+m<=a₀.size)(h1:1<=n)(hnm:n<=m)(hd:Dn κ (arrOf st) lo n)(mv:Mv lo (lo+m) st0 st)
  (q:∀k st',SG kd a₀ st'->Mv lo (lo+m) st0 st'->1<=k->k<=m->Up κ (arrOf st') lo k->Q (some k) st'):wpS (model prog w) A E s (zcv lo n m) Q st:=by
 unfold zcv;have sz:lo+n<=(arrOf st).size:=by rw[g.sz];omega
 refine wpS_bind (zj5 ?_);have g':=g.arr (mirror_perm (arrOf st) lo (lo+n) ((lo+n-lo) / 2));refine wpS_bind (zvi L h0 g' hm h1 (λi j a b c=>?_) hnm λk k1 k2 hk _=>wpS_pure (q k _ g' (mv.trans (j0 sz (Nat.le_refl _) (by omega))) (by omega) k2 hk));show κ.kle (KK κ (mirror (arrOf st) lo (lo+n) ((lo+n-lo) / 2)) i) (KK κ (mirror (arrOf st) lo (lo+n) ((lo+n-lo) / 2)) j);rw[KK_mirror sz,KK_mirror sz,if_pos (by omega),if_pos (by omega)];exact hd _ _ (by omega) (by omega) (by omega)
theorem Dn.next{xs:Array Keyed}{lo n:Nat}(h:Dn κ xs lo n)(h1:1<=n)(c:κ.kle (KK κ xs (lo+n)) (KK κ xs (lo+n-1))):Dn κ xs lo (n+1):=λi j a b d=>by
 by_cases e:j<lo+n
 ·exact h i j a b e
 ·have ej:j=lo+n:=by omega
  subst ej
  by_cases e2:i=lo+n
  ·subst e2;exact KeyOrd.kle_refl _
  ·exact KeyOrd.kle_trans c (h i (lo+n-1) a (by omega) (by omega))
theorem zfn{xs:Array Keyed}{i j:Nat}(hj:j<=xs.size)(he:∀k,i<=k->k<j->KK κ xs k=KK κ xs (j-1))(k:Nat):KK κ (mirror xs i j ((j-i) / 2)) k=KK κ xs k:=KK_mirror_equal hj he k
theorem zwk{st:SortSt}{lo n m:Nat}{Q:Option (Option Nat)×Nat×Nat->SortSt->Prop}(L:zbo prog w A s κ kd)(h0:KeysOf κ a₀)(g:SG kd a₀ st)(hm:lo+m<=a₀.size)(h1:1<=n)(hnm:n<=m)(hd:Dn κ (arrOf st) lo n)
  (q:∀k e st',SG kd a₀ st'->Mv lo (lo+m) st st'->n<=k->k<=m->Dn κ (arrOf st') lo k->e+1<=k->(∀i,lo+k-(e+1)<=i->i<lo+k->KK κ (arrOf st') i=KK κ (arrOf st') (lo+k-1))->Q (none,k,e) st'):wpS (model prog w) A E s (zfm lo n m) Q st:=by
 unfold zfm;refine wpS_forRange (I:=λx c st'=>∃e,c=(none,x,e)/\SG kd a₀ st'/\Mv lo (lo+m) st st'/\Dn κ (arrOf st') lo x/\e+1<=x/\(∀i,lo+x-(e+1)<=i->i<lo+x->KK κ (arrOf st') i=KK κ (arrOf st') (lo+x-1))) (λx c st' hx1 hx2 h=>?_) (λc st' h=>?_) ⟨0,rfl,g,Mv.refl _ _ _,hd,by omega,λi a b=>by rw[show i=lo+n-1 by omega]⟩
 ·obtain⟨e,rfl,g',mv,hx,he,heq⟩:=h;dsimp only;refine wpS_bind (zct L g' h0 (by omega) (by omega) ?_)
  cases cb:κ.blt (KK κ (arrOf st') (lo+x)) (KK κ (arrOf st') (lo+x-1)) with
  |true=>
   dsimp only;rw[if_pos rfl]
   by_cases ce:e > 0
   ·rw[if_pos ce];refine wpS_bind (zj5 (wpS_pure ?_));have sz:lo+x<=(arrOf st').size:=by rw[g'.sz];omega
    have kf:=zfn (κ:=κ) (xs:=arrOf st') (i:=lo+x-(e+1)) (j:=lo+x) sz heq;refine⟨0,rfl,g'.arr (mirror_perm _ _ _ _),mv.trans (j0 sz (by omega) (by omega)),?_,by omega,λi a b=>by rw[show i=lo+(x+1)-1 by omega]⟩;refine Dn.next (λi j a b d=>?_) (by omega) ?_
    ·show κ.kle (KK κ (mirror _ _ _ _) j) (KK κ (mirror _ _ _ _) i);rw[kf,kf];exact hx i j a b d
    ·show κ.kle (KK κ (mirror _ _ _ _) _) (KK κ (mirror _ _ _ _) _);rw[kf,kf];exact KeyOrd.kle_of_klt cb
   ·rw[if_neg ce];exact wpS_pure ⟨0,rfl,g',mv,hx.next (by omega) (KeyOrd.kle_of_klt cb),by omega,λi a b=>by rw[show i=lo+(x+1)-1 by omega]⟩
  |false=>
   dsimp only;rw[if_neg (by decide)];refine wpS_bind (zct L g' h0 (by omega) (by omega) ?_)
   cases cc:κ.blt (KK κ (arrOf st') (lo+x-1)) (KK κ (arrOf st') (lo+x)) with
   |true=>exact wpS_pure (q x e st' g' mv hx1 (by omega) hx he heq)
   |false=>
    have same:KK κ (arrOf st') (lo+x)=KK κ (arrOf st') (lo+x-1):=KeyOrd.kle_antisymm cc cb;refine wpS_pure ⟨e+1,rfl,g',mv,hx.next (by omega) cc,by omega,λi a b=>?_⟩;rw[show lo+(x+1)-1=lo+x by omega]
    by_cases ei:i=lo+x
    ·rw[ei]
    ·rw[heq i (by omega) (by omega),same]
 ·obtain⟨e,rfl,g',mv,hx,he,heq⟩:=h;rw[show max n m=m by omega]at *;exact q m e st' g' mv hnm (Nat.le_refl _) hx he heq
theorem zj6{st st0:SortSt}{lo n m:Nat}{Q:Option Nat->SortSt->Prop}(L:zbo prog w A s κ kd)(h0:KeysOf κ a₀)(g:SG kd a₀ st)(hm:lo+m<=a₀.size)(h1:1<=n)(hnm:n+1<=m)(hd:Dn κ (arrOf st) lo (n+1))(mv:Mv lo (lo+m) st0 st)
  (q:∀k st',SG kd a₀ st'->Mv lo (lo+m) st0 st'->1<=k->k<=m->Up κ (arrOf st') lo k->Q (some k) st'):wpS (model prog w) A E s (zgx lo n m) Q st:=by
 unfold zgx;refine wpS_bind (wpS_lift (wpAny_rule ⟨rfl,?_⟩));refine wpS_bind (zwk L h0 g hm (by omega) hnm hd λk e st' g' mv' k1 k2 hk he heq=>?_);dsimp only
 by_cases ce:e > 0
 ·rw[if_pos ce];have sz:lo+k<=(arrOf st').size:=by rw[g'.sz];omega
  have kf:=zfn (κ:=κ) (xs:=arrOf st') (i:=lo+k-(e+1)) (j:=lo+k) sz heq;refine wpS_bind (zj5 (zru L h0 (g'.arr (mirror_perm _ _ _ _)) hm (by omega) k2 (λi j a b d=>?_) ((mv.trans mv').trans (j0 sz (by omega) (by omega))) q));show κ.kle (KK κ (mirror _ _ _ _) j) (KK κ (mirror _ _ _ _) i);rw[kf,kf];exact hk i j a b d
 ·rw[if_neg ce];exact zru L h0 g' hm (by omega) k2 hk (mv.trans mv') q
theorem zir{st:SortSt}{lo m:Nat}{Q:Option Nat->SortSt->Prop}(L:zbo prog w A s κ kd)(h0:KeysOf κ a₀)(g:SG kd a₀ st)(hm:lo+m<=a₀.size)(h1:1<=m)
  (q:∀k st',SG kd a₀ st'->Mv lo (lo+m) st st'->1<=k->k<=m->Up κ (arrOf st') lo k->Q (some k) st'):wpS (model prog w) A E s (countRun' lo m) Q st:=by
 rw[zb2];refine wpS_bind (zvi L h0 g hm (Nat.le_refl _) (λi j a b c=>by rw[show i=j by omega];exact KeyOrd.kle_refl _) h1 λn n1 n2 hn hz=>?_);dsimp only
 by_cases e:n=m
 ·rw[if_pos (by simpa using e)];exact wpS_pure (q n st g (Mv.refl _ _ _) n1 n2 hn)
 ·rw[if_neg (by simpa using e)];have down:=hz.resolve_left e
  by_cases e1:n > 1
  ·rw[if_pos e1];refine wpS_bind (zct L g h0 (by omega) (by omega) ?_)
   cases cb:κ.blt (KK κ (arrOf st) lo) (KK κ (arrOf st) (lo+n-1)) with
   |true=>exact wpS_pure (q n st g (Mv.refl _ _ _) n1 n2 hn)
   |false=>
    dsimp only;rw[if_neg (by decide)];have all:∀k,lo<=k->k<lo+n->KK κ (arrOf st) k=KK κ (arrOf st) (lo+n-1):=λk a b=>
     KeyOrd.kle_antisymm (hn k (lo+n-1) a (by omega) (by omega)) (KeyOrd.kle_trans cb (hn lo k (Nat.le_refl _) a b))
    have sz:lo+n<=(arrOf st).size:=by rw[g.sz];omega
    have kf:=zfn (κ:=κ) (xs:=arrOf st) (i:=lo) (j:=lo+n) sz all;refine wpS_bind (zj5 (zj6 L h0 (g.arr (mirror_perm _ _ _ _)) hm n1 (by omega) (Dn.next (λi j a b d=>?_) n1 ?_) (j0 sz (Nat.le_refl _) (by omega)) q))
    ·show κ.kle (KK κ (mirror _ _ _ _) j) (KK κ (mirror _ _ _ _) i);rw[kf,kf,all j (by omega) d,all i a (by omega)];exact KeyOrd.kle_refl _
    ·show κ.kle (KK κ (mirror _ _ _ _) _) (KK κ (mirror _ _ _ _) _);rw[kf,kf];exact KeyOrd.kle_of_klt down
  ·rw[if_neg e1];refine zj6 L h0 g hm n1 (by omega) (Dn.next (λi j a b d=>by rw[show i=j by omega];exact KeyOrd.kle_refl _) n1 (KeyOrd.kle_of_klt down)) (Mv.refl _ _ _) q
theorem zod{st:SortSt}{lo n ok:Nat}{Q:Bool->SortSt->Prop}(L:zbo prog w A s κ kd)(h0:KeysOf κ a₀)(g:SG kd a₀ st)(hn:lo+n<=a₀.size)(hok:ok<=n)(hu:Up κ (arrOf st) lo ok)
  (q:∀st',SG kd a₀ st'->Mv lo (lo+n) st st'->Up κ (arrOf st') lo n->Q true st'):wpS (model prog w) A E s (binarySort' lo n ok) Q st:=by
 rw[binarySort'_eq];refine wpS_bind (wpS_mono (wpS_forRange (I:=λk c st'=>c=(none,())/\SG kd a₀ st'/\Mv lo (lo+n) st st'/\Up κ (arrOf st') lo (min k n))
  (Q:=λc st'=>c=(none,())/\SG kd a₀ st'/\Mv lo (lo+n) st st'/\Up κ (arrOf st') lo n) (λk c st' hk1 hk2 h=>?_) (λc st' h=>?_) ⟨rfl,g,Mv.refl _ _ _,λi j a b d=>?_⟩) (λc st' h=>?_))
 ·obtain⟨rfl,g',mv,hs⟩:=h;rw[show min k n=k by omega]at hs
  refine wpS_bind (wpS_mono (wpS_forRange (I:=λx c z=>z=st'/\∃l r,c=(none,l,r)/\l<=r/\r<=k/\r-l<=k-x/\(∀i,lo<=i->i<lo+l->κ.kle (KK κ (arrOf st') i) (KK κ (arrOf st') (lo+k)))/\(∀i,lo+r<=i->i<lo+k->κ.klt (KK κ (arrOf st') (lo+k)) (KK κ (arrOf st') i)))
   (Q:=λc z=>z=st'/\∃l r,c=(none,l,r)/\l<=k/\(∀i,lo<=i->i<lo+l->κ.kle (KK κ (arrOf st') i) (KK κ (arrOf st') (lo+k)))/\(∀i,lo+l<=i->i<lo+k->κ.klt (KK κ (arrOf st') (lo+k)) (KK κ (arrOf st') i)))
   (λx c z hx1 hx2 h=>?_) (λc z h=>?_) ⟨rfl,0,k,rfl,by omega,by omega,by omega,λi a b=>by omega,λi a b=>by omega⟩) (λc z h=>?_))
  ·obtain⟨rfl,l,r,rfl,p1,p2,p3,p4,p5⟩:=h;dsimp only
   by_cases e:l ≥ r
   ·rw[if_pos e];have:l=r:=by omega
    subst this;exact wpS_pure ⟨rfl,l,l,rfl,p2,p4,p5⟩
   ·rw[if_neg e];refine wpS_bind (zct L g' h0 (by omega) (by omega) ?_)
    cases cb:κ.blt (KK κ (arrOf z) (lo+k)) (KK κ (arrOf z) (lo+(l+r) / 2)) with
    |true=>exact wpS_pure ⟨rfl,l,(l+r) / 2,rfl,by omega,by omega,by omega,p4,λi a b=>KeyOrd.klt_of_klt_of_kle cb (hs _ _ (by omega) a (by omega))⟩
    |false=>exact wpS_pure ⟨rfl,(l+r) / 2+1,r,rfl,by omega,by omega,by omega,λi a b=>KeyOrd.kle_trans (hs i (lo+(l+r) / 2) a (by omega) (by omega)) cb,p5⟩
  ·obtain⟨rfl,l,r,rfl,p1,p2,p3,p4,p5⟩:=h;have:l=r:=by omega
   subst this;exact⟨rfl,l,l,rfl,p2,p4,p5⟩
  ·obtain⟨rfl,l,r,rfl,p2,p4,p5⟩:=h;show wpS _ _ _ _ (do moveDown' (lo+k) (lo+l);pure (ForInStep.yield (none,()))) _ _;rw[moveDown'_eq];have sz:lo+k<(arrOf z).size:=by rw[g'.sz];omega
   refine wpS_bind (wpS_modify (wpS_pure ⟨rfl,g'.arr (bubble_perm _ _ _),mv.trans ⟨λi hi=>?_,rfl⟩,?_⟩))
   ·show(bubble (arrOf z) (lo+k) (lo+k-(lo+l)))[i]?=_;rw[getElem?_bubble sz _ (by omega),if_neg (by omega),if_neg (by omega)]
   ·rw[show min (k+1) n=k+1 by omega];intro i j a b d;show κ.kle (KK κ (bubble (arrOf z) (lo+k) (lo+k-(lo+l))) i) (KK κ (bubble (arrOf z) (lo+k) (lo+k-(lo+l))) j);rw[KK_bubble sz (by omega),KK_bubble sz (by omega),show lo+k-(lo+k-(lo+l))=lo+l by omega]
    repeat' split
    all_goals first
     |(exfalso;omega)
     |exact KeyOrd.kle_refl _
     |exact p4 _ (by omega) (by omega)
     |exact KeyOrd.kle_of_klt (p5 _ (by omega) (by omega))
     |exact hs _ _ (by omega) (by omega) (by omega)
 ·obtain⟨h1,h2,h3,h4⟩:=h;rw[show min (max (max ok 1) n) n=n by omega]at h4;exact⟨h1,h2,h3,h4⟩
 ·by_cases e:ok=0
  ·rw[show i=j by omega];exact KeyOrd.kle_refl _
  ·exact hu i j a b (by omega)
 ·obtain⟨rfl,h2,h3,h4⟩:=h;exact wpS_pure (q st' h2 h3 h4)
end
end SQ
namespace SQ
open PySem PyProof.Rows
set_option autoImplicit false
def kk(κ:KeyKind)(p:Keyed):κ.α:=(κ.keyOf p.1).getD κ.dflt
def le(κ:KeyKind)(x y:Keyed):Prop:=κ.kle (kk κ x) (kk κ y)
end SQ
namespace SQ
open PySem PyProof.Rows
set_option autoImplicit false
section
variable {prog:Program}{w:World}{A:Around}{E:Value->Shared->Prop}{s:Shared}{κ:KeyKind}{kd:SortKind}
theorem zfo{α:Type}{c:Prop}[Decidable c]{x y:StateT SortSt Sem α}{Q:α->SortSt->Prop}{st:SortSt}{M:Model}(h1:c->wpS M A E s x Q st)(h2:¬ c->wpS M A E s y Q st):wpS M A E s (if c then x else y) Q st:=by
 by_cases h:c
 ·rw[if_pos h];exact h1 h
 ·rw[if_neg h];exact h2 h
theorem st5{α β γ δ ε C:Type}{lo hi:Nat}{z:SortSt}{F:α->β->γ->δ->ε->C}{P:Nat->α->β->γ->δ->ε->Prop}{G:Nat->C->SortSt->Prop}(h:∀x,lo<=x->x<hi->∀a b c d e,P x a b c d e->G x (F a b c d e) z):∀x c z',lo<=x->x<hi->(z=z'/\∃a b i d e,c=F a b i d e/\P x a b i d e)->G x c z':=by
 intro x c z' h1 h2 e;obtain⟨rfl,a,b,i,d,e,rfl,p⟩:=e;exact h x h1 h2 a b i d e p
end
end SQ
namespace SQ
open PySem PyProof.Rows
set_option autoImplicit false
def Cov(κ:KeyKind)(xs:Array Keyed):Nat->List (Nat×Nat×Nat)->Nat->Prop
 |at_,[],hi=>at_=hi
 |at_,(b,n,_)::r,hi=>b=at_/\1<=n/\Up κ xs at_ n/\Cov κ xs (at_+n) r hi
section
variable {κ:KeyKind}
theorem Cov.push{xs:Array Keyed}{n pw:Nat}:∀{l:List (Nat×Nat×Nat)}{at_ hi:Nat},Cov κ xs at_ l hi->1<=n->Up κ xs hi n->Cov κ xs at_ (l ++ [(hi,n,pw)]) (hi+n)
 |[],at_,hi,h,hn,u=>by
  have e:at_=hi:=h;subst e;exact⟨rfl,hn,u,rfl⟩
 |(b,m,p)::r,at_,hi,h,hn,u=>⟨h.1,h.2.1,h.2.2.1,h.2.2.2.push hn u⟩
end
end SQ
namespace SQ
open PySem PyProof.Rows
set_option autoImplicit false
section
variable {prog:Program}{w:World}{A:Around}{E:Value->Shared->Prop}{s:Shared}
theorem zlj{Q:List Value->Shared->Prop}{l:Addr}{T:String}{o:Obj}{xs:Array Value}{n:Nat}(hT:T = "list" \/ T = "tuple")(ho:s.heap.get? l=some o)(hc:o.cls=.type T)(hd:o.data=.seq xs n)(hz:xs.size<=sizeLine)
  (q:Q xs.toList { s with heap:=(s.heap.push (seqObj "list" #[] 0)).update s.heap.objs.size (Obj.mapSeq (·++xs)) }):wpAny (model prog w) A (collect (.ref l)) Q E s:=by
 unfold collect;refine wpAny_bind (wpAny_runValue (codeAny_builtin PySem.F.entry_proto_collect ?_));rw[Around.under_plainId PySem.F.plain_proto_collect _];show wpAny _ A.in1 (newList [] >>= λz=>again (.builtin "list.__iadd__" ⟨[z,.ref l],[]⟩)) _ _ s;refine wpAny_bind (wpAny_newObj_type ?_);refine wpAny_pure ⟨plainId_quiet PySem.F.plain_list_iadd _,codeAny_builtin PySem.F.entry_list_iadd ?_⟩;rw[Around.under_plainId PySem.F.plain_list_iadd _];show wpAny _ A.in1 (Builtin.List.listExtendWith (.ref s.heap.objs.size) (.ref l) (.ref s.heap.objs.size)) _ _ _;have g1:(s.heap.push { cls:=.type "list",data:=.seq ([]:List Value).toArray }).get? s.heap.objs.size=some { cls:=.type "list",data:=.seq #[] 0 }:=Heap.get?_push_size _ rfl;have g2:=Heap.get?_update_self (Obj.mapSeq (·++xs)) g1 rfl;have fin:wpAny (model prog w) A (match Value.ref s.heap.objs.size with
   |Value.ref z=>do
    match (<-load z).data with
     |Data.seq ys _=>pure ys.toList
     |_=>unsupported "internal:collect"
   |_=>unsupported "internal:collect") Q E { s with heap:=(s.heap.push { cls:=.type "list",data:=.seq ([]:List Value).toArray }).update s.heap.objs.size (Obj.mapSeq (·++xs)) }:=by
  show wpAny _ A (load s.heap.objs.size >>= _) _ _ _;refine wpAny_bind (wpAny_load g2 (wpAny_pure ?_));show Q ((#[]:Array Value)++xs).toList _;rw[show((#[]:Array Value)++xs).toList=xs.toList by simp];exact q
 refine wpAny_mono (wpAny_extend_seq (hsz:=hz) (A:=A) (R:=λr s'=>r=.ok (.ret (.ref s.heap.objs.size))/\s' = { s with heap:=(s.heap.push { cls:=.type "list",data:=.seq ([]:List Value).toArray }).update s.heap.objs.size (Obj.mapSeq (·++xs)) })
  (s:={ s with heap:=s.heap.push { cls:=.type "list",data:=.seq ([]:List Value).toArray } }) _ l _ 0 hT g1 (Heap.get?_push_of_some _ ho) hc hd ⟨rfl,rfl⟩) (λf s' z=>?_) (λe s' z=>absurd z.1 (by simp))
 cases f with
 |done f=>
  obtain⟨e,rfl⟩:=z
  cases e;exact fin
 |again c'=>exact⟨z.1,codeAny_mono z.2 λr s2 y=>by obtain⟨rfl,rfl⟩:=y;exact fin⟩
theorem zqh(A:Around):A.in1.in1.units<=A.units+8:=by show A.units+1+1<=_;omega
end
end SQ
namespace SQ
open PySem PyProof.Rows
set_option autoImplicit false
@[reducible] def intK:KeyKind where
 α:=Int
 blt a b:=decide (a<b)
 irrefl a:=by simp
 trans a b c h1 h2:=by simp only[decide_eq_true_eq]at *;omega
 negTrans a b c h:=by simp only[decide_eq_true_eq]at *;omega
 total a b h1 h2:=by simp only[decide_eq_false_iff_not]at *;omega
 keyOf v:=match v with|.int i _=>some i|_=>none
 dflt:=0
theorem zqi{prog:Program}{w:World}{A:Around}{s:Shared}:zbo prog w A s intK oneType':=λE x y a b Q ha hb q=>by
 cases x <;> simp only[intK,reduceCtorEq,Option.some.injEq]at ha
 cases y <;> simp only[intK,reduceCtorEq,Option.some.injEq]at hb
 cases ha;cases hb;rw[keyLt'_oneType];exact oneLt_int q
def RefIs(h:Heap)(v:Value)(is:List Int):Prop:=∃a its,v=.ref a/\IsTup h a its/\IntsAre its.toList is
theorem IntsAre.same{vs:List Value}{ns ms:List Int}(h:IntsAre vs ns)(h':IntsAre vs ms):ns=ms:=by rw[<-h.nums,<-h'.nums]
theorem RefIs.uniq{h:Heap}{v:Value}{is js:List Int}(x:RefIs h v is)(y:RefIs h v js):is=js:=by
 obtain⟨a,its,rfl,⟨o,e,_,n,d⟩,i1⟩:=x;obtain⟨a',its',e',⟨o',e2,_,n',d'⟩,i2⟩:=y
 cases e';rw[e]at e2
 cases e2;rw[d]at d'
 cases d';exact IntsAre.same i1 i2
theorem RefIs.keep{h h':Heap}{v:Value}{is:List Int}(k:∀b o,h.get? b=some o->h'.get? b=some o)(x:RefIs h v is):RefIs h' v is:=by
 obtain⟨a,its,e,t,i⟩:=x;exact⟨a,its,e,t.keeps k,i⟩
open Classical in
noncomputable def refKey (h:Heap) (v:Value):Option (List Int):=if x:∃is,RefIs h v is then some x.choose else none
theorem zbw{h:Heap}{v:Value}{is:List Int}(e:refKey h v=some is):RefIs h v is:=by
 unfold refKey at e
 split at e
 ·next x=>cases e;exact x.choose_spec
 ·cases e
theorem zbp{h:Heap}{v:Value}{is:List Int}(x:RefIs h v is):refKey h v=some is:=by
 unfold refKey;rw[dif_pos ⟨is,x⟩];rw[(Exists.choose_spec (p:=λis=>RefIs h v is) ⟨is,x⟩).uniq x]
@[reducible] noncomputable def zdp (h:Heap):KeyKind where
 α:=List Int
 blt a b:=decide (a<b)
 irrefl a:=by simpa using List.lt_irrefl a
 trans a b c h1 h2:=by simp only[decide_eq_true_eq]at *;exact List.lt_trans h1 h2
 negTrans a b c h:=by
  simp only[decide_eq_true_eq]at *
  by_cases c:a<b
  ·exact .inl c
  ·exact .inr (List.lt_of_le_of_lt (List.not_lt.mp c) h)
 total a b h1 h2:=by simp only[decide_eq_false_iff_not]at *;exact List.le_antisymm (List.not_lt.mp h2) (List.not_lt.mp h1)
 keyOf v:=refKey h v
 dflt:=[]
section
variable {prog:Program}{w:World}{A:Around}{E:Value->Shared->Prop}{s:Shared}
theorem zis{a b:Int}{t u:Tok}{f:Bool}{Q:Bool->Shared->Prop}(h:Q (decide (a<b)) s):wpAny (model prog w) A (oneLt' f (.int a t) (.int b u)) Q E s:=by
 cases f with
 |true=>exact oneLt_int h
 |false=>
  rw[oneLt'_eq];rw[if_neg (by decide)];have:=CmpOf.ints_lt (prog:=prog) (w:=w) (A:=A) (P:=λi v=>(i=0/\v=.int a t)\/(i=1/\v=.int b u)) (λi=>if i=0 then a else b) (λi v hv=>by
   rcases hv with⟨rfl,rfl⟩ |⟨rfl,rfl⟩
   ·exact⟨t,rfl⟩
   ·exact⟨u,rfl⟩)
  exact wpAny_bind (this 0 1 _ _ s _ E (.inl ⟨rfl,rfl⟩) (.inr ⟨rfl,rfl⟩) (wpAny_truthy_bool h))
theorem zj7{f:Bool}:∀{xs ys:List Value}{as bs:List Int} (k:Nat) (Q:Option Bool×Unit->Shared->Prop),IntsAre xs as->IntsAre ys bs->(∀r,(r=none->as.take bs.length=bs.take as.length)->(∀b,r=some b->b=decide (as<bs))->Q (r,()) s) ->
  wpAny (model prog w) A (forIn ((xs.zip ys).zipIdx k) ((none,()):Option Bool×Unit) λx _=>match x with
   |((p,q),i)=>do
    let e <-eqBool p q
    if (!e)=true then do
     let r <-oneLt' (f && i == 0) p q
     pure (ForInStep.done (some r,()))
    else pure (ForInStep.yield (none,()))) Q E s
 |_,_,_,_,k,Q,.nil,h2,q=>by
  simp only[List.zip_nil_left,List.zipIdx_nil,List.forIn_nil];exact wpAny_pure (q none (λ_=>by simp) (λb e=>by cases e))
 |_,_,_,_,k,Q,.cons a t h1,.nil,q=>by
  simp only[List.zip_nil_right,List.zipIdx_nil,List.forIn_nil];exact wpAny_pure (q none (λ_=>by simp) (λb e=>by cases e))
 |_,_,_,_,k,Q,.cons (ns:=as) a t h1,.cons (ns:=bs) b u h2,q=>by
  simp only[List.zip_cons_cons,List.zipIdx_cons,List.forIn_cons];refine wpAny_bind ?_;refine wpAny_bind (wpAny_eqBool_int ?_)
  by_cases c:a=b
  ·subst c;rw[if_neg (by simp)];refine wpAny_pure (zj7 (k+1) Q h1 h2 λr r1 r2=>q r (λe=>?_) λd e=>?_)
   ·simp only[List.length_cons,List.take_succ_cons];rw[r1 e]
   ·rw[r2 d e];exact decide_eq_decide.mpr (by rw[List.cons_lt_cons_iff];simp)
  ·rw[if_pos (by simpa using c)];refine wpAny_bind (zis (wpAny_pure (wpAny_pure (q _ (λe=>by cases e) λd e=>?_))))
   cases e;exact decide_eq_decide.mpr (by rw[List.cons_lt_cons_iff];simp[c])
theorem zel:∀{as bs:List Int},as.take bs.length=bs.take as.length->decide (as<bs)=decide (as.length<bs.length)
 |[],[],_=>by simp
 |[],b::bs,_=>by simp
 |a::as,[],_=>by simp
 |a::as,b::bs,h=>by
  simp only[List.length_cons,List.take_succ_cons,List.cons.injEq]at h;obtain⟨rfl,h⟩:=h;have:=zel h;rw[decide_eq_decide]at this ⊢;rw[List.cons_lt_cons_iff];simp only[Int.lt_irrefl,false_or,true_and,List.length_cons,this];omega
theorem zj8{h₀:Heap}{f:Bool}(k:∀b o,h₀.get? b=some o->s.heap.get? b=some o):zbo prog w A s (zdp h₀) (tuples' f):=λE x y a b Q ha hb q=>by
 obtain⟨ra,ia,rfl,⟨oa,ga,_,na,da⟩,ta⟩:=(zbw ha).keep k;obtain⟨rb,ib,rfl,⟨ob,gb,_,nb,db⟩,tb⟩:=(zbw hb).keep k;refine wpAny_bind (listItems_at ga da (wpAny_bind (listItems_at gb db (wpAny_bind (zj7 0 _ ta tb λr r1 r2=>?_)))))
 cases r with
 |some d=>
  dsimp only
  cases r2 d rfl;exact wpAny_pure q
 |none=>
  dsimp only;refine wpAny_pure ?_;have:=zel (r1 rfl);rw[<-ta.length,<-tb.length]at this;rw[show decide (ia.size<ib.size)=(zdp h₀).blt a b from ?_]
  ·exact q
  ·show _=decide (a<b);rw[this];simp
end
end SQ
namespace SQ
open PySem PyProof.Rows
set_option autoImplicit false
inductive All2{α β:Type}(R:α->β->Prop):List α->List β->Prop
 |nil:All2 R [] []
 |cons {a:α}{b:β}{as:List α}{bs:List β} (h:R a b) (t:All2 R as bs):All2 R (a::as) (b::bs)
theorem All2.imp{α β:Type}{R S:α->β->Prop}(f:∀a b,R a b->S a b){as:List α}{bs:List β}(h:All2 R as bs):All2 S as bs:=by
 induction h with
 |nil=>exact .nil
 |cons h _ ih=>exact .cons (f _ _ h) ih
theorem All2.mem{α β:Type}{R:α->β->Prop}{as:List α}{bs:List β}(h:All2 R as bs){a:α}(ha:a∈as):∃b∈bs,R a b:=by
 induction h with
 |nil=>cases ha
 |cons h _ ih=>
  rcases List.mem_cons.mp ha with rfl|ha
  ·exact⟨_,List.mem_cons_self,h⟩
  ·obtain⟨b,hb,r⟩:=ih ha;exact⟨b,List.mem_cons_of_mem _ hb,r⟩
section
variable {prog:Program}{w:World}{A:Around}{E:Value->Shared->Prop}{s:Shared}
theorem zlk{v:Value}{i:Int}{is:List Int}(h:RefIs s.heap v (i::is)):∃t,∀Q:Option Value->Shared->Prop,Q (some (.int i t)) s->wpAny (model prog w) A (firstOfTuple' v) Q E s:=by
 obtain⟨a,its,rfl,⟨o,g,c,n,d⟩,ii⟩:=h;obtain⟨t,rest,e⟩:∃t rest,its.toList=.int i t::rest:=by
  cases e:its.toList with
  |nil=>rw[e]at ii;cases ii
  |cons x r=>
   rw[e]at ii
   cases ii with
   |cons n t h=>exact⟨t,r,rfl⟩
 refine⟨t,λQ q=>wpAny_bind (wpAny_typeOf (T := "tuple") ⟨o,g,c⟩ ?_)⟩;rw[if_neg (by decide)];refine wpAny_bind (listItems_at g d (wpAny_pure ?_));have:its[0]?=some (.int i t):=by rw[<-Array.getElem?_toList,e];rfl
 rw[this];exact q
theorem zen:∀{vs:List Value}{tss:List (List Int)},All2 (RefIs s.heap) vs tss->(∀t∈tss,t ≠ [])->∃(fs:List Value) (ns:List Int),IntsAre fs ns/\fs.length=vs.length/\∀Q:List (Option Value)->Shared->Prop,Q (fs.map some) s->wpAny (model prog w) A (vs.mapM firstOfTuple') Q E s
 |_,_,.nil,_=>⟨[],[],.nil,rfl,λQ q=>by rw[List.mapM_nil];exact wpAny_pure q⟩
 |_,_,.cons (b:=t) h r,hne=>by
  obtain⟨fs,ns,i1,l1,w1⟩:=zen r λx hx=>hne x (List.mem_cons_of_mem _ hx)
  cases t with
  |nil=>exact absurd rfl (hne [] List.mem_cons_self)
  |cons i is=>
   obtain⟨t,w2⟩:=zlk (prog:=prog) (w:=w) (A:=A) (E:=E) h;refine⟨.int i t::fs,i::ns,.cons i t i1,by simp[l1],λQ q=>?_⟩;rw[List.mapM_cons];exact wpAny_bind (w2 _ (wpAny_bind (w1 _ (wpAny_pure q))))
theorem zeo{vs:List Value}{tss:List (List Int)}{Q:SortKind->Shared->Prop}(h:All2 (RefIs s.heap) vs tss)(hne:∀t∈tss,t ≠ [])(h2:2<=vs.length)(q:Q (tuples' true) s):wpAny (model prog w) A (keyKind' vs.toArray) Q E s:=by
 obtain⟨fs,ns,i1,l1,w1⟩:=zen (prog:=prog) (w:=w) (A:=A) (E:=E) h hne;rw[keyKind'_eq,List.mapM_toArray];simp only[map_eq_pure_bind,bind_assoc,pure_bind];refine wpAny_bind (w1 _ ?_);rw[if_pos (by simp)];refine wpAny_bind (m:=rule _) (wpAny_rule ?_);have ef:Array.filterMap id (List.map some fs).toArray=fs.toArray:=by simp
 rw[ef,oneTypeOnly'_eq,List.mapM_toArray,mapM_typeOf_ints i1];simp only[map_pure,pure_bind]
 cases fs with
 |nil=>simp at l1;omega
 |cons f fs=>
  have hall:((List.map (λ_=>Value.type "int") (f::fs)).toArray.all λx=>x == Value.type "int")=true:=by
   simp only[List.all_toArray,List.all_map,List.all_eq_true];intro _ _;rfl
  have g0:(List.map (λ_=>Value.type "int") (f::fs)).toArray[0]?=some (Value.type "int"):=by simp
  rw[g0];simp only[hall,if_true,pure_bind];exact wpAny_pure q
theorem za1{κ:KeyKind}{vs:List Value}(h:∀v∈vs,∃a,κ.keyOf v=some a):KeysOf κ (pairsOf vs):=λp hp=>by
 rw[pairsOf_toList]at hp;exact h _ (mem_zip_self hp).2
theorem zep{κ:KeyKind}{vs:List Value}{out:Array Keyed}(p:out.Perm (pairsOf vs))(so:SortedToK κ out (pairsOf vs).size)(hk:∀v∈vs,∃a,κ.keyOf v=some a):
  (out.map (·.2)).toList.Perm vs/\∃ks:List κ.α,All2 (λv k=>κ.keyOf v=some k) (out.map (·.2)).toList ks/\ks.Pairwise κ.kle:=by
 have pl:=Array.perm_iff_toList_perm.mp p;rw[pairsOf_toList]at pl;have diag:∀x∈out.toList,x.1=x.2/\x.1∈vs:=λx hx=>mem_zip_self (pl.mem_iff.mp hx);refine⟨?_,out.toList.map λx=>(κ.keyOf x.1).getD κ.dflt,?_,?_⟩
 ·rw[Array.toList_map];have:=pl.map (·.2)
  rwa [show(vs.zip vs).map (·.2)=vs by rw[List.map_snd_zip (Nat.le_refl _)]]at this
 ·rw[Array.toList_map];clear so p pl;generalize out.toList=l at diag
  induction l with
  |nil=>exact .nil
  |cons x l ih=>
   refine .cons ?_ (ih λy hy=>diag y (List.mem_cons_of_mem _ hy));obtain⟨e,m⟩:=diag x List.mem_cons_self;obtain⟨a,ea⟩:=hk _ m;show κ.keyOf x.2=some ((κ.keyOf x.1).getD κ.dflt);rw[<-e,ea];rfl
 ·rw[List.pairwise_map,List.pairwise_iff_getElem];intro i j h1 h2 hij;have h1':i<out.size:=by simpa using h1
  have h2':j<out.size:=by simpa using h2
  have:=so i j (Nat.le_of_lt hij) (by rw[<-p.size_eq];exact h2');unfold KK at this;rw[Array.getElem?_eq_getElem h1',Array.getElem?_eq_getElem h2']at this;simpa using this
end
end SQ
namespace L2
open PySem PySem.Spec PyProof.Rows SQ
def ji(ns:List Int):List Int:=ns.mergeSort (λa b=>decide (a<=b))
def zj9(tss:List (List Int)):List (List Int):=tss.mergeSort (λa b=>!decide (b<a))
def tD(is:List Int):D:=.tuple (is.map PyData.int)
theorem zap(ns:List Int):(ji ns).Perm ns:=List.mergeSort_perm _ _
theorem zoe(ns:List Int):(ji ns).Pairwise (· <= ·):=by
 have:=List.pairwise_mergeSort (le:=λa b:Int=>decide (a<=b)) (λa b c h1 h2=>by simp at *;omega) (λa b=>by simp;omega) ns;exact this.imp λh=>by simpa using h
theorem qh{ms ns:List Int}(p:ms.Perm ns)(h:ms.Pairwise (· <= ·)):ms=ji ns:=(p.trans (zap ns).symm).eq_of_pairwise (λa b _ _ h3 h4=>Int.le_antisymm h3 h4) h (zoe ns)
theorem zit(tss:List (List Int)):(zj9 tss).Perm tss:=List.mergeSort_perm _ _
theorem zll{a b c:List Int}(h1:¬ b<a)(h2:¬ c<b):¬ c<a:=λh=>h1 (List.lt_of_le_of_lt (List.not_lt.mp h2) h)
theorem zof(tss:List (List Int)):(zj9 tss).Pairwise λa b=>¬ b<a:=by
 have:=List.pairwise_mergeSort (le:=λa b:List Int=>!decide (b<a)) (λa b c h1 h2=>by
  simp only[Bool.not_eq_true',decide_eq_false_iff_not]at *;exact zll h1 h2) (λa b=>by
  simp only[Bool.or_eq_true,Bool.not_eq_true',decide_eq_false_iff_not]
  by_cases c:b<a
  ·exact .inr λz=>List.lt_irrefl _ (List.lt_trans z c)
  ·exact .inl c) tss
 exact this.imp λh=>by simpa using h
theorem ziu{ss tss:List (List Int)}(p:ss.Perm tss)(h:ss.Pairwise λa b=>¬ b<a):ss=zj9 tss:=(p.trans (zit tss).symm).eq_of_pairwise (λa b _ _ h3 h4=>List.le_antisymm (List.not_lt.mp h3) (List.not_lt.mp h4)) h (zof tss)
def zfp(xs:List D)(Q:List D->Prop):Prop:=(∃ns:List Int,xs=ns.map PyData.int/\Q ((ji ns).map PyData.int))\/∃tss:List (List Int),xs=tss.map tD/\(∀t∈tss,t ≠ [])/\Q ((zj9 tss).map tD)
theorem zeq{K:PySem.W.Frag}{H:Hp}{us us':List Value}(p:us'.Perm us):∀{vs:List V}{ds:List D},Vals vs us->Reps K H ds vs->∃vs' ds',Vals vs' us'/\Reps K H ds' vs'/\ds'.Perm ds:=by
 induction p with
 |nil=>intro vs ds r rp;exact⟨vs,ds,r,rp,.refl _⟩
 |cons u p ih=>
  intro vs ds r rp
  cases r with
  |cons r1 r2=>
   cases rp with
   |cons q1 q2=>
    obtain⟨vs',ds',a1,a2,a3⟩:=ih r2 q2;exact⟨_,_,.cons r1 a1,.cons q1 a2,a3.cons _⟩
 |swap u v l=>
  intro vs ds r rp
  cases r with
  |cons r1 r2=>
   cases r2 with
   |cons r3 r4=>
    cases rp with
    |cons q1 q2=>
     cases q2 with
     |cons q3 q4=>exact⟨_,_,.cons r3 (.cons r1 r4),.cons q3 (.cons q1 q4),.swap _ _ _⟩
 |trans p1 p2 ih1 ih2=>
  intro vs ds r rp;obtain⟨vs1,ds1,a1,a2,a3⟩:=ih2 r rp;obtain⟨vs2,ds2,b1,b2,b3⟩:=ih1 a1 a2;exact⟨vs2,ds2,b1,b2,b3.trans a3⟩
section
variable {X:Cx}
theorem j1{pins:List (Addr×Obj)}{σ:St}{H:Hp}{s:Shared}(I:Inv X pins σ H s):∀{tss:List (List Int)}{vs:List V}{us:List Value},Reps X.K H (tss.map tD) vs->Vals vs us->All2 (RefIs s.heap) us tss
 |[],_,_,.nil,.nil=>.nil
 |t::tss,_,_,.cons r rs,.cons q qs=>by
  refine .cons ?_ (j1 I rs qs)
  cases r with
  |tup h r=>
   cases q;have:=Reps.of_ints r;subst this;obtain⟨its,rv,ht,_⟩:=I.tuple h;exact⟨_,its.toArray,rfl,ht,by simpa using vq rv⟩
theorem zgy{α:Type}{f:α->D}(g:D->α)(hg:∀a,g (f a)=a){ds:List D}{as:List α}(p:ds.Perm (as.map f)):∃bs:List α,ds=bs.map f/\bs.Perm as:=by
 have:∀d∈ds,∃a,d=f a/\True:=λd hd=>by
  obtain⟨a,_,e⟩:=List.mem_map.mp (p.mem_iff.mp hd);exact⟨a,e.symm,trivial⟩
 obtain⟨bs,e,_⟩:=zfl this;subst e;refine⟨bs,rfl,?_⟩;have z:∀l:List α,(l.map f).map g=l:=λl=>by rw[List.map_map];exact(List.map_congr_left λa _=>hg a).trans (List.map_id _)
 have:=p.map g
 rwa [z,z]at this
def deI:D->Int
 |.int i=>i
 |_=>0
def deT:D->List Int
 |.tuple xs=>xs.map deI
 |_=>[]
theorem zqj(i:Int):deI (.int i)=i:=rfl
theorem ztz(is:List Int):deT (tD is)=is:=by
 show(is.map PyData.int).map deI=is;rw[List.map_map];exact(List.map_congr_left λa _=>rfl).trans (List.map_id _)
end
end L2
namespace L2
open PySem PySem.Spec PyProof.Rows
namespace RV
theorem zwl:Manifest.owners.lookup (String.ofList ['d','e','s','r','e','v','e','r'].reverse)=some Manifest.sig_reversed:=by kernel_rfl
theorem sNext:Slot "reversed" "__next__" "reversed.__next__" := .of (owner := "reversed") (n := "__next__") (by rw[typeLookup_type,builtinLookup_eq_fast];kernel_rfl) (by decide +kernel) (by decide +kernel) (by decide +kernel) (by first|exact .inl (by decide +kernel)|exact .inr (by decide +kernel)) (by rw[isSubtype_type];kernel_rfl)
theorem zrv:Slot "reversed" "__iter__" "reversed.__iter__" := .of (owner := "reversed") (n := "__iter__") (by rw[typeLookup_type,builtinLookup_eq_fast];kernel_rfl) (by decide +kernel) (by decide +kernel) (by decide +kernel) (by first|exact .inl (by decide +kernel)|exact .inr (by decide +kernel)) (by rw[isSubtype_type];kernel_rfl)
theorem zvj(a:Value):argsOk "reversed.__iter__" ⟨[a],[]⟩:=by
 unfold argsOk;rw[signature?_of (id := "reversed.__iter__") (n:=['_','_','r','e','t','i','_','_']) (o:=['d','e','s','r','e','v','e','r']) (by kernel_rfl) zwl];kernel_rfl
theorem zvk:entryFor table "reversed.__iter__" = some Builtin.«dict_keyiterator.__iter__»:=entryFor_alias (id' := "dict_keyiterator.__iter__") (by kernel_rfl) (by first|rfl|decide +kernel |(unfold String.splitOn;simp +decide [String.splitOnAux])) (by decide +kernel) (by kernel_rfl)
end RV
namespace RV
def ob(l:Addr)(i:Int):Obj:={ cls:=.type "reversed",data:=.fields #[.ref l,rawInt i] }
def Is(h:Heap)(a l:Addr)(i:Int):Prop:=∃o,h.get? a=some o/\o.cls=.type "reversed" /\ o.data=.fields #[.ref l,rawInt i]
theorem Is.typeIs{s:Shared}{a l:Addr}{i:Int}(x:Is s.heap a l i):s.TypeIs (.ref a) "reversed" := let ⟨o,ho,hc,_⟩:=x;⟨o,ho,hc⟩
section
variable {prog:Program}{w:World}{A:Around}{E:Value->Shared->Prop}{s:Shared}
theorem iter{it l:Addr}{i:Int}{Q:Value->Shared->Prop}(hit:Is s.heap it l i)(h:Q (.ref it) s):wpAny (model prog w) A (pyIter (.ref it)) Q E s:=by
 refine wpAny_pyIter_slot hit.typeIs zrv (wpAny_call_entry zrv hit.typeIs zvk ?_ (zvj _));show wpAny _ _ (ret (.ref it)) _ _ s;exact wpAny_pure ⟨_,rfl, "reversed",_,hit.typeIs,sNext.lookup,h⟩
end
end RV
theorem zer:∀(l:List Value) (k:Nat),(∀(j:Nat) v,l[j]?=some v->∃t,v=.int ((k+j:Nat):Int) t)->Vals ((List.range' k l.length).map λi:Nat=>V.int i) l
 |[],_,_=>.nil
 |v::l,k,h=>by
  rw[List.length_cons,List.range'_succ];refine .cons ?_ (zer l (k+1) λj v hv=>?_)
  ·exact h 0 v rfl
  ·have:=h (j+1) v hv
   rwa [show k+(j+1)=k+1+j by omega]at this
theorem zgz{acc:Array Value}{n:Nat}(h:ItemsOf (λi v=>∃t,v=.int (0+i * 1) t) acc n):Vals ((List.range n).map λi:Nat=>V.int i) acc.toList:=by
 obtain⟨hz,hv⟩:=h;have:=zer acc.toList 0 λj v e=>by
  obtain⟨t,et⟩:=hv j v (by simpa using e);exact⟨t,by rw[et];congr 1;omega⟩
 rw[List.range_eq_range',<-hz];simpa using this
section
variable {X:Cx}{a:Expr}{p pos p2 pos2:Pos}
def tLR(ta:TA):TE:=λσ H Q=>ta σ H λvs H1=>∃j:Int,vs = [.int j]/\0<=j/\j<=1000000/\∀d,H1 d=none->Q (.ref d) (upd H1 d (.lst ((List.range j.toNat).map λi:Nat=>V.int i)))
theorem zog{ta:TA}(hgl:Gl X "list")(hml:X.mg "list" = none)(hg:Gl X "range")(hm:X.mg "range" = none)(hc:X.calm=true)(ha:PA X [a] ta)(hs:starEach [a] X.env = [(false,eval a X.env)]:=by rfl)
  (hs2:starEach [.Call (.Name "range" p2) [a] [] pos2] X.env = [(false,eval (.Call (.Name "range" p2) [a] [] pos2) X.env)]:=by rfl) :
  PE X (.Call (.Name "list" p) [.Call (.Name "range" p2) [a] [] pos2] [] pos) (tLR ta):=by
 intro pins s σ H Q I h;refine Call_ (kc I hgl hml PyProof.Rows.boot_list (PyProof.Rows.callWith_type1 ?_ hs2 rfl));rw[hs2];show wpAny _ _ (spliced ((false,eval (.Call (.Name "range" p2) [a] [] pos2) X.env)::backTo pos [])) _ _ s;refine Calls.spliced_cons ?_;refine Call_ (kc I hg hm boot_range (PyProof.Rows.callWith_type1 (thn (ha pos2 pins s σ H _ I h) λus s1 ⟨vs,H1,I1,r1,q1⟩=>?_) hs rfl));obtain⟨j,e,h0,h1,q⟩:=q1;subst e
 cases r1 with
 |cons r rr=>
  cases rr;obtain⟨t,rfl⟩:=r;refine call_range_1 (Calls.spliced_nil ?_);refine call_list_range (n:=j.toNat) (I.ok.hd hc) (IsRange.new ..) (small_one (by omega) (by omega) (by omega) (by omega)) (by rw[rangeSize_one];split <;> omega) (by omega) λh' tk acc' c' hk hS hacc=>?_;have hz:=hacc.1;have sz:(s1.heap.push { cls:=.type "range",data:=.fields #[.int 0 s1.toks,.int j t,.int 1 (s1.toks+1)] }).objs.size=s1.heap.objs.size+1:=Heap.size_push ..;have hf:H1 (s1.heap.push { cls:=.type "range",data:=.fields #[.int 0 s1.toks,.int j t,.int 1 (s1.toks+1)] }).objs.size=none:=I1.hok.fresh (by rw[sz];omega);refine⟨.ref _,upd H1 _ (.lst ((List.range j.toNat).map λi:Nat=>V.int i)),I1.laid (t':=tk) (λb u e=>hk _ _ (Heap.get?_push_of_some _ e)) (by rw[sz];omega) ?_,rfl,q _ hf⟩;exact⟨by simp[sizeLine_eq];omega,acc'.toList,c',zgz hacc,by simpa using hS⟩
def dLR(t:DTF):DTF:=λσ Q=>t σ λds=>match ds with
 |[.int j]=>0<=j/\j<=1000000/\Q (xb 0 j.toNat)
 |_=>False
theorem zcw{K:PySem.W.Frag}{H:Hp}(n:Nat):Reps K H (xb 0 n) ((List.range n).map λi:Nat=>V.int i):=by
 unfold xb;generalize List.range n=is
 induction is with
 |nil=>exact .nil
 |cons i is ih=>
  refine .cons ?_ ih;show Rep K H (.int (0+(i:Int))) (.int (i:Int));rw[Int.zero_add];exact .int
theorem zg0{t:DTF}(hgl:Gl X "list")(hml:X.mg "list" = none)(hg:Gl X "range")(hm:X.mg "range" = none)(hc:X.calm=true)(ha:DA X [a] t)(hs:starEach [a] X.env = [(false,eval a X.env)]:=by rfl)
  (hs2:starEach [.Call (.Name "range" p2) [a] [] pos2] X.env = [(false,eval (.Call (.Name "range" p2) [a] [] pos2) X.env)]:=by rfl) :
  DF X (.Call (.Name "list" p) [.Call (.Name "range" p2) [a] [] pos2] [] pos) (dLR t) :=
 DF.of (zog hgl hml hg hm hc ha.pa hs hs2) λσ H H₀ σD QD ok q=>⟨H₀,σD,_,ok,q,λvs H1 ds s1 r1 q1=>by
  match ds,r1,q1 with
  |[.int j],r1,q1=>
   cases r1 with
   |cons r t=>
   cases t
   cases r;refine⟨j,rfl,q1.1,q1.2.1,λd hd=>?_⟩;have n1:H d=none:=by
    cases z:H d with
    |none=>rfl
    |some u=>rw[s1 d u z]at hd;cases hd
   exact⟨d,_,_,rfl,s1.trans (zy hd _),n1,zj,zcw _,q1.2.2⟩⟩
end
def zvl(k:Int):Value->Bool
 |.int i _=>i == k
 |_=>false
theorem zqk{ns:List Int}{its:List Value}(r:Vals (ns.map V.int) its):∀y∈its,∃i t,y=Value.int i t:=λy hy=>by
 obtain⟨j,hj⟩:=List.mem_iff_getElem?.mp hy;have hl:=r.length;rw[List.length_map]at hl;have hlt:j<ns.length:=by have:=(List.getElem?_eq_some_iff.mp hj).1;omega
 have hx:(ns.map V.int)[j]?=some (.int ns[j]):=by simp[hlt]
 obtain⟨u,hu,ru⟩:=r.get hx;rw[hj]at hu
 cases hu;obtain⟨t,rfl⟩:=ru;exact⟨_,_,rfl⟩
section
variable {X:Cx}
variable {o e:Expr}{to te:DTE}{apos cpos:Pos}
theorem zes{K:PySem.W.Frag}{H:Hp}:∀{ns:List Int}{vs:List V},Reps K H (ns.map PyData.int) vs->vs=ns.map V.int
 |[],_,r=>by cases r;rfl
 |n::ns,_,r=>by
  cases r with
  |cons r t=>
   cases r;rw[zes t];rfl
end
section
variable {X:Cx}{e:Expr}{tf:DTF}{pos:Pos}
def zql(i:Nat)(tf:DTF):DTS:=λDn σ=>match σ[i]? with
 |some (some (.own (.lst xs)))=>tf σ λys=>xs.length+ys.length<=sizeLine/\Dn.nx (clr (σ.set i (some (.own (.lst (xs++ys))))))
 |_=>False
theorem zlm(i:Nat){x:Str}{p1 apos cpos:Pos}(he:DF X e tf)(hN:X.N[i]?=some x:=by rfl)(hv:Vis X.env.scope x:=by first|exact Or.inl rfl|exact Or.inr (Or.inl rfl)|exact Or.inr (Or.inr rfl))(hd:(x ==("__debug__" : Str))=false:=by decide)
  (hcd:(x ==("__classdict__" : Str))=false:=by decide)
  (hbase:attributeBase (.Name x p1) "extend" X.env (eval (.Name x p1) X.env)=eval (.Name x p1) X.env:=by rfl)
  (hfew:((backTo cpos (starEach (e :: []) X.env)).all (λx=>!x.1) && (backToKw cpos (keywordEach [] X.env)).all (λx=>x.1.isSome)
   && decide ((e :: []).length+([]:List Keyword).length+(if ([]:List Keyword).isEmpty then 0 else 1)<30))=true:=by rfl)
  (hline:(apos.endLine == cpos.line)=true:=by rfl) (hst:starEach (e :: []) X.env=(false,eval e X.env)::starEach [] X.env:=by rfl) (hplain:(backTo cpos (starEach [] X.env)).any (·.1)=false:=by rfl)
  (hs:swapsWith (.Call (.Attribute (.Name x p1) "extend" apos) [e] [] cpos) none pos.line X.env=pure false:=by rfl):DS X (.Expr (.Call (.Attribute (.Name x p1) "extend" apos) [e] [] cpos) pos) (zql i tf) :=
 DS.of (ze3 (zcj PySem.F.plainAttrs_list PySem.F.slot_list_extend PySem.F.type_list_extend zk3 (wu (i:=i) hN hv hd hcd) (yo he.pe wb hst) hbase hfew hline hst hplain) hs) λσ H H₀ σD Dn ok q=>by
  unfold zql at q
  split at q
  ·next xs eo=>
   obtain⟨a,vs,e1,e2,r,n⟩:=ok.ownL eo;refine⟨.ref a,e1,.inl ⟨rfl,vs,SqL.of e2⟩,H₀,σD,_,ok,q,λb H1 zs ys s1 n1 eb r1 q1=>?_⟩;refine⟨a,b,vs,zs,rfl,rfl,s1 _ _ e2,eb,by rw[<-r.length,<-r1.length];exact q1.1,_,(ok.after s1).write eo e1 (s1 _ _ e2) ((r.same s1).append r1),s1.pers.trans (vo (s1 _ _ e2) rfl),q1.2⟩
  ·exact q.elim
end
section
variable {κ:Type}[DecidableEq κ]
def zg1(kvs:List (κ×V))(k:κ)(v:V):List (κ×V) :=
 if (kvs.any λkv=>decide (kv.1=k))=true then kvs.map (λkv=>if kv.1=k then (kv.1,v) else kv) else kvs ++ [(k,v)]
theorem zg2(kvs:List (κ×V))(k:κ)(v:V):(zg1 kvs k v).length<=kvs.length+1:=by
 unfold zg1
 split
 ·rw[List.length_map];omega
 ·rw[List.length_append,List.length_cons,List.length_nil];omega
theorem KV.any{kvs:List (κ×V)}{vs:List (κ×Value)}(r:KV kvs vs)(k:κ):(kvs.any λkv=>decide (kv.1=k))=vs.any λkv=>decide (kv.1=k):=by
 unfold KV at r
 induction r with
 |nil=>rfl
 |cons h t ih=>rw[List.any_cons,List.any_cons,ih,h.1]
theorem KV.repl{kvs:List (κ×V)}{vs:List (κ×Value)}(r:KV kvs vs)(k:κ){y:V}{u:Value}(ry:RelV y u):
  KV (kvs.map λkv=>if kv.1=k then (kv.1,y) else kv) (vs.map λkv=>if kv.1=k then (kv.1,u) else kv):=by
 unfold KV at r ⊢
 induction r with
 |nil=>exact .nil
 |@cons p q ps qs h t ih=>
  rw[List.map_cons,List.map_cons];refine .cons ?_ ih;obtain⟨h1,h2⟩:=h
  by_cases e:p.1=k
  ·rw[if_pos e,if_pos (h1.symm.trans e)];exact⟨h1,ry⟩
  ·rw[if_neg e,if_neg (λz=>e (h1.trans z))];exact⟨h1,h2⟩
theorem KV.put{kvs:List (κ×V)}{vs:List (κ×Value)}(r:KV kvs vs)(k:κ){y:V}{u:Value}(ry:RelV y u):KV (zg1 kvs k y) (stored vs k u):=by
 unfold zg1 stored;rw[r.any k]
 by_cases e:(vs.any λkv=>decide (kv.1=k))=true
 ·rw[if_pos e,if_pos e];exact r.repl k ry
 ·rw[if_neg e,if_neg e];exact Paired.snoc r ⟨rfl,ry⟩
end
theorem zvm{P:Program}{w:World}{k:Key}{u:Value}(r:RelV (kV k) u):(vk P w).is k u=true:=by
 cases k with
 |inl i=>obtain⟨t,e⟩:=(show ∃t,u=Value.int i t from r);subst e;exact zf5 P w i t
 |inr x=>obtain⟨t,e⟩:=(show ∃t,u=Value.str x t from r);subst e;exact zf6 P w x t
section
variable {P:Program}{w:World}{H:Hp}{h:Heap}{a:Addr}
theorem zvn{u:HO}(ok:HOk P w H h)(e:Rd H a u):ObjOk P w H h a u:=e.ok ok
theorem zvo{kvs:List (Key×V)}(ok:HOk P w H h)(e:Rd H a (.dK kvs)):kvs.length<=sizeLine/\(a == sysModules)=false/\∃vs,KV kvs vs/\h.DictOf (vk P w) a vs :=
 show ObjOk P w H h a (.dK kvs) from zvn ok e
theorem zvp{kvs:List (Key×V)}(ok:HOk P w H h)(e:H a=some (.dK kvs)):kvs.length<=sizeLine/\(a == sysModules)=false/\∃vs,KV kvs vs/\h.DictOf (vk P w) a vs:=zvo ok (.inl e)
end
section
variable {X:Cx}{pins:List (Addr×Obj)}{σ:St}{H:Hp}{s:Shared}{a:Addr}{y v:V}{u r:Value}{o:Option V}{A:Around}{E:Value->Shared->Prop}
theorem Inv.big(I:Inv X pins σ H s):sysModules<s.heap.objs.size:=by
 have h:mainGlobals<s.heap.objs.size:=(I.mod.glob.keeps I.bk).lt;exact Nat.lt_trans (by decide) h
theorem zqm{h':Heap}{t':Nat}{ob:HO}(I:Inv X pins σ H s)(mu:Mut (H a))(hs:Heap.SameBut a s.heap h')(he:∃q,h'.get? a=some q)(new:ObjOk X.prog X.w (upd H a ob) h' a ob):
  Inv X pins σ (upd H a ob) { s with heap:=h',toks:=t' } :=
 I.write (x:=a) (e:=a) mu (.inl rfl) (λb q hb z=>(hs.2 b hb).trans z) he new
theorem zt0{P:Program}{w:World}{H':Hp}{h':Heap}{kvs:List (Key×V)}{vs:List (Key×Value)}(z:kvs.length<=sizeLine)(hd:(a == sysModules)=false)(rel:KV kvs vs)(dd:h'.DictOf (vk P w) a vs):
  ObjOk P w H' h' a (.dK kvs):=⟨z,hd,vs,rel,dd⟩
end
theorem zoh{P:Program}{w:World}{H:Hp}(h:Heap)(hb:sysModules<h.objs.size):ObjOk P w H (h.push { cls:=.type "dict",data:=.dict #[] }) h.objs.size (.dK []) :=
 ⟨Nat.zero_le _,beq_eq_false_iff_ne.mpr (Ne.symm (Nat.ne_of_lt hb)),[],.nil,Heap.DictOf.new h⟩
def ziv:List (TE×TE)->St->Hp->(List (V×V)->Hp->Prop)->Prop
 |[],_,H,Q=>Q [] H
 |(tk,tv)::r,σ,H,Q=>tk σ H λx H1=>tv σ H1 λy H2=>ziv r σ H2 λps H3=>Q ((x,y)::ps) H3
abbrev VV:List (V×V)->List (Value×Value)->Prop:=Paired λp q=>RelV p.1 q.1/\RelV p.2 q.2
def PPs(X:Cx)(pos:Pos)(keys:List (Option Expr))(values:List Expr)(trs:List (TE×TE)):Prop :=
 ∀(pins:List (Addr×Obj)) (s:Shared) (σ:St) (H:Hp) (Q:List (V×V)->Hp->Prop),Inv X pins σ H s->ziv trs σ H Q ->
  wpAny (model X.prog X.w) X.A (evalPairs (pairTrees keys values X.env pos)) (λvs s'=>∃ps H',Inv X pins σ H' s'/\VV ps vs/\Q ps H') X.xe s
theorem zqn{X:Cx}{pos:Pos}:PPs X pos [] [] []:=λpins s σ H Q I h=>pairTrees_nil_walk ⟨[],H,I,.nil,h⟩
theorem zoi{X:Cx}{pos:Pos}{k v:Expr}{ks:List (Option Expr)}{vs:List Expr}{tk tv:TE}{trs:List (TE×TE)}(hk:PE X k tk)(hv:PE X v tv)(hr:PPs X pos ks vs trs):
  PPs X pos (some k::ks) (v::vs) ((tk,tv)::trs):=λpins s σ H Q I h=>
 pairTrees_cons_walk (thn (hk pins s σ H _ I h) λu s1 ⟨x,H1,I1,rx,q1⟩=>thn (hv pins s1 σ H1 _ I1 q1) λw2 s2 ⟨y,H2,I2,ry,q2⟩=>
  thn (hr pins s2 σ H2 _ I2 q2) λws s3 ⟨ps,H3,I3,rel,q3⟩=>⟨(x,y)::ps,H3,I3,.cons ⟨rx,ry⟩ rel,q3⟩)
def zcx(kvs more:List (Key×V)):List (Key×V):=more.foldl (λacc kv=>zg1 acc kv.1 kv.2) kvs
theorem KV.merge:∀{more:List (Key×V)}{rs:List (Key×Value)}{kvs:List (Key×V)}{vs:List (Key×Value)},KV more rs->KV kvs vs->KV (zcx kvs more) (merged vs rs):=by
 intro more rs kvs vs r;unfold KV at r
 induction r generalizing kvs vs with
 |nil=>intro q;exact q
 |@cons p q ps qs h t ih=>
  intro r0;have e:KV (zg1 kvs p.1 p.2) (stored vs q.1 q.2):=by
   have:=r0.put p.1 h.2;rw[<-h.1];exact this
  exact ih e
theorem zaa:∀(more kvs:List (Key×V)),(zcx kvs more).length<=kvs.length+more.length
 |[],kvs=>by show kvs.length<=kvs.length+0;omega
 |p::r,kvs=>by
  have h1:=zaa r (zg1 kvs p.1 p.2);have h2:=zg2 kvs p.1 p.2;show(zcx (zg1 kvs p.1 p.2) r).length<=_;rw[List.length_cons];omega
theorem zcy{P:Program}{w:World}:∀{kvs:List (Key×V)}{ws:List (Value×Value)},VV (kvs.map λkv=>(kV kv.1,kv.2)) ws->∃rs,Carries (vk P w) ws rs/\KV kvs rs
 |[],_,r=>by rw[List.map_nil]at r;cases r;exact⟨[],True.intro,.nil⟩
 |p::kvs,_,r=>by
  rw[List.map_cons]at r
  cases r with
  |@cons a b as bs h t=>
   obtain⟨rs,c,q⟩:=zcy (P:=P) (w:=w) t;obtain⟨b1,b2⟩:=b;exact⟨(p.1,b2)::rs,⟨zvm h.1,rfl,c⟩,.cons ⟨rfl,h.2⟩ q⟩
def zvq(trs:List (TE×TE)):TE:=λσ H Q=>∀p,H p=none->ziv trs σ (upd H p (.dK [])) λps H2=>H2 p=some (.dK [])/\∃kvs:List (Key×V),ps=kvs.map (λkv=>(kV kv.1,kv.2))/\kvs.length<=15/\Q (.ref p) (upd H2 p (.dK (zcx [] kvs)))
theorem zqo{X:Cx}{pos:Pos}{keys:List (Option Expr)}{values:List Expr}{trs:List (TE×TE)}(h:PPs X pos keys values trs)(hall:keys.all (·.isSome)=true)(hl:keys.length=values.length)(h0:keys ≠ [])
  (h15:keys.length<=15):PE X (.Dict keys values pos) (zvq trs):=by
 intro pins s σ H Q I q;have hn:=I.hok.fresh (Nat.le_refl s.heap.objs.size);have I1:=I.laid (a:=s.heap.objs.size) (o:=.dK []) (h':=s.heap.push { cls:=.type "dict",data:=.dict #[] }) (t':=s.toks) (λ_ _ q=>Heap.get?_push_of_some _ q) (Nat.le_refl _) (zoh s.heap I.big);refine wpAny_Dict_walk (knd:=vk X.prog X.w) hall hl h0 h15 (thn (h pins _ σ _ _ I1 (q _ hn)) λws s2 ⟨ps,H2,I2,rel,e,kvs,ep,lk,q2⟩=>?_);subst ep;obtain⟨rs,c,rk⟩:=zcy (P:=X.prog) (w:=X.w) rel;obtain⟨z,hd,vs0,r0,dd⟩:=zvp I2.hok e
 cases r0;refine⟨rs,c,dd,λh' dd' hs=>⟨.ref s.heap.objs.size,_,?_,rfl,q2⟩⟩;have hz:(zcx [] kvs).length<=sizeLine:=by
  have h1:=zaa kvs [];rw[List.length_nil]at h1;rw[sizeLine_eq];omega
 have he:∃q,h'.get? s.heap.objs.size=some q:=let ⟨q,_,_,hq,_⟩:=dd';⟨q,hq⟩;exact zqm I2 (by rw[e];exact True.intro) hs he (zt0 hz hd (rk.merge .nil) dd')
theorem zg3{ns:List Int}{its:List Value}(r:Vals (ns.map V.int) its)(k:Int):its.countP (zvl k)=ns.count k:=by
 induction ns generalizing its with
 |nil=>cases r;rfl
 |cons n ns ih=>
  cases r with
  |cons h t=>
   obtain⟨tk,rfl⟩:=h;rw[List.countP_cons,ih t,List.count_cons];rfl
section
variable {X:Cx}
theorem zln:MtR X "tuple.count" (λx vs H Q=>∃(l:Addr) (ns:List Int) (k:Int),x=.ref l/\vs = [.int k]/\SqT X.K H l (ns.map V.int)/\Q (.int ((ns.count k:Nat):Int)) H):=by
 intro pins s σ H x vs v us Q I rx rv h;obtain⟨l,ns,k,rfl,rfl,hR,q⟩:=h
 cases rx;obtain⟨u,rfl,ru⟩:=rv.one;obtain⟨t,rfl⟩:=ru;obtain⟨its,r,⟨⟨cls,dd,data,sl⟩,e,hc,⟨n,hd⟩,_⟩,z⟩:=I.tupleD hR;simp only at hc hd;subst hc hd;refine call_meets F.slot_tuple_count ⟨_,e,rfl⟩ F.entry_tuple_count (F.args_tuple_count_2 _ _) (PySem.SeqAt.tuple_countAt l its.toArray n dd sl (.int k t) (zvl k)) ⟨e,λy hy=>?_,?_⟩
 ·obtain⟨i,t',rfl⟩:=zqk r y (by simpa using hy);exact(PySem.MeetsSeq.EqGives.int i k t' t).at _ _
 ·rw[List.toList_toArray,zg3 r k];exact⟨.int ((ns.count k:Nat):Int),H,I.tok _,⟨_,rfl⟩,q⟩
variable {o e:Expr}{to te:DTE}{apos cpos:Pos}
def zka(to te:DTE):DTE:=λσ Q=>to σ λd=>match d with
 |.tuple xs=>te σ λk=>match k with
  |.int i=>∃(ns:List Int),xs=ns.map PyData.int/\Q (.int ((ns.count i:Nat):Int))
  |_=>False
 |_=>False
theorem zlo(ho:DV X o to)(ha:DE X e te)(hbase:attributeBase o "count" X.env (eval o X.env)=eval o X.env:=by rfl)
  (hfew:((backTo cpos (starEach [e] X.env)).all (λx=>!x.1) && (backToKw cpos (keywordEach [] X.env)).all (λx=>x.1.isSome) && decide (([e]:List Expr).length+([]:List Keyword).length+(if ([]:List Keyword).isEmpty then 0 else 1)<30))=true:=by rfl)
  (hline:(apos.endLine == cpos.line)=true:=by rfl) (hs:starEach [e] X.env=(false,eval e X.env)::starEach [] X.env:=by rfl) (hplain:(backTo cpos (starEach [] X.env)).any (·.1)=false:=by rfl) :
  DE X (.Call (.Attribute o "count" apos) [e] [] cpos) (zka to te) :=
 DE.of (zcj F.plainAttrs_tuple F.slot_tuple_count F.type_tuple_count zln ho.pe (yo ha.pe wb hs) hbase hfew hline hs hplain) λσ H H₀ σD QD ok q=>⟨H₀,σD,_,ok,q,λv H1 d s1 r1 q1=>by
  cases d with
  |tuple xs=>
   obtain⟨a,vs,rfl,hR,rp⟩:=r1.tuple;refine⟨.inr (.inl ⟨rfl,vs,hR⟩),H₀,σD,_,ok.after s1,q1,λv2 H2 d2 s2 r2 q2=>?_⟩
   cases d2 with
   |int i=>
    obtain⟨ns,rfl,q3⟩:=q2
    cases r2;have e:=zes rp;subst e;exact⟨a,ns,i,rfl,rfl,s2.seqT hR,.int _,s1.trans s2,.int,q3⟩
   |_=>exact q2.elim
  |_=>exact q1.elim⟩
end
end L2
namespace SQ
open PySem PyProof.Rows
set_option autoImplicit false
section
variable {κ:KeyKind}
variable {prog:Program}{w:World}{A:Around}{E:Value->Shared->Prop}{s:Shared}{κ:KeyKind}{kd:SortKind}{a₀:Array Keyed}
theorem zbx{st:SortSt}{Q:Unit->SortSt->Prop}(L:zbo prog w A s κ kd)(h0:KeysOf κ a₀)(g:SG kd a₀ st)(hp:pendingOf st = #[])(h2:2<=a₀.size)(h64:a₀.size<64)(q:∀st',SG kd a₀ st'->SortedToK κ (arrOf st') a₀.size->Q () st'):wpS (model prog w) A E s sortRuns' Q st:=by
 rw[sortRuns'_eq];refine wpS_bind (wpS_get ?_);dsimp only;simp only[g.sz];have emr:minRun' a₀.size a₀.size 0=a₀.size:=by
  obtain⟨m,hm⟩:∃m,a₀.size=m+1:=⟨a₀.size-1,by omega⟩
  conv=>lhs;arg 1;rw[hm]
  rw[minRun'_succ,if_pos h64,Nat.add_zero]
 rw[emr];refine wpS_bind (wpS_mono (wpS_forRange (I:=λx c z=>∃lo,c=(none,lo)/\SG kd a₀ z/\Cov κ (arrOf z) 0 (pendingOf z).toList lo/\lo<=a₀.size/\x<=lo/\((lo=0/\pendingOf z = #[])\/(lo=a₀.size/\(pendingOf z).size<=1)))
  (Q:=λc z=>c=(none,a₀.size)/\SG kd a₀ z/\Cov κ (arrOf z) 0 (pendingOf z).toList a₀.size/\(pendingOf z).size<=1) (λx c z hx1 hx2 h=>?_) (λc z h=>?_) ⟨0,rfl,g,by rw[hp];rfl,by omega,by omega,.inl ⟨rfl,hp⟩⟩) (λc z h=>?_))
 ·obtain⟨lo,rfl,gz,cv,l1,l2,l3⟩:=h;dsimp only;refine zfo (λc=>?_) (λc=>?_)
  ·have e9:lo=a₀.size:=by omega
   subst e9;refine wpS_pure ⟨rfl,gz,cv,?_⟩;rcases l3 with⟨z,_⟩ |⟨_,z⟩
   ·omega
   ·exact z
  obtain⟨rfl,hpz⟩:lo=0/\pendingOf z = #[]:=by
   rcases l3 with z |⟨z,_⟩
   ·exact z
   ·omega
  refine wpS_bind (zir L h0 gz (by omega) (by omega) λk z1 g1 mv k1 k2 u=>?_);have hp1:pendingOf z1 = #[]:=by rw[mv.pend];exact hpz
  have cv1:Cov κ (arrOf z1) 0 (pendingOf z1).toList 0:=by rw[hp1];rfl
  dsimp only;refine zfo (λcm=>?_) (λcm=>?_)
  ·refine wpS_bind (wpS_lift (wpAny_rule ⟨rfl,?_⟩));refine wpS_bind (zod L h0 g1 (by omega) (by omega) u λz2 g2 mv2 u2=>?_);rw[if_neg (by decide)];have hp2:pendingOf z2 = #[]:=by rw[mv2.pend];exact hp1
   have cv2:Cov κ (arrOf z2) 0 (pendingOf z2).toList 0:=by rw[hp2];rfl
   refine wpS_bind (wpS_get ?_)
   cases hb:(pendingOf z2).back? with
   |none=>
    dsimp only;refine wpS_bind (wpS_modify (wpS_pure ⟨0+(min (a₀.size-0) a₀.size),rfl,⟨g2.perm,g2.kind,g2.fail⟩,?_,by omega,by omega,.inr ⟨by omega,?_⟩⟩))
    ·show Cov κ (arrOf z2) 0 ((pendingOf z2).push (0,min (a₀.size-0) a₀.size,0)).toList (0+(min (a₀.size-0) a₀.size));rw[Array.toList_push];exact cv2.push (by omega) u2
    ·show((pendingOf z2).push (0,min (a₀.size-0) a₀.size,0)).size<=1;rw[hp2];exact Nat.le_refl 1
   |some t=>rw[hp2]at hb;cases hb
  ·refine wpS_bind (wpS_get ?_)
   cases hb:(pendingOf z1).back? with
   |none=>
    dsimp only;refine wpS_bind (wpS_modify (wpS_pure ⟨0+(k),rfl,⟨g1.perm,g1.kind,g1.fail⟩,?_,by omega,by omega,.inr ⟨by omega,?_⟩⟩))
    ·show Cov κ (arrOf z1) 0 ((pendingOf z1).push (0,k,0)).toList (0+(k));rw[Array.toList_push];exact cv1.push k1 u
    ·show((pendingOf z1).push (0,k,0)).size<=1;rw[hp1];exact Nat.le_refl 1
   |some t=>rw[hp1]at hb;cases hb
 ·obtain⟨lo,rfl,gz,cv,l1,l2,l3⟩:=h;have e9:lo=a₀.size:=by omega
  subst e9;refine⟨rfl,gz,cv,?_⟩;rcases l3 with⟨z,_⟩ |⟨_,z⟩
  ·omega
  ·exact z
 ·obtain⟨rfl,gz,cv,hz1⟩:=h;dsimp only
  refine wpS_bind (wpS_mono (wpS_forRange (I:=λx c z=>c=(none,())/\SG kd a₀ z/\Cov κ (arrOf z) 0 (pendingOf z).toList a₀.size/\(pendingOf z).size<=1)
   (Q:=λc z=>c=(none,())/\SG kd a₀ z/\Cov κ (arrOf z) 0 (pendingOf z).toList a₀.size/\(pendingOf z).size<=1) (λx c z hx1 hx2 h=>?_) (λc z h=>h) ⟨rfl,gz,cv,hz1⟩) (λc z h=>?_))
  ·obtain⟨rfl,gz,cv,hz⟩:=h;refine wpS_bind (wpS_get ?_);exact zfo (λc=>wpS_pure ⟨rfl,gz,cv,c⟩) (λc=>absurd hz c)
  ·obtain⟨rfl,gz,cv,hz⟩:=h;refine wpS_pure (q z gz λi j a b=>?_)
   have:∀l:List (Nat×Nat×Nat),l.length<=1->Cov κ (arrOf z) 0 l a₀.size->Up κ (arrOf z) 0 a₀.size:=by
    intro l hl c
    match l,hl,c with
    |[],_,c=>have:0=a₀.size:=c;omega
    |[(b,n,p)],_,c=>
     obtain⟨_,_,u,e⟩:=c;have e':0+n=a₀.size:=e;rw[Nat.zero_add]at e';rw[<-e'];exact u
   exact this _ (by simpa using hz) cv i j (Nat.zero_le _) a (by omega)
end
section
variable {prog:Program}{w:World}{A:Around}{E:Value->Shared->Prop}{s:Shared}
theorem zg4{κ:KeyKind}{kd:SortKind}{a:Addr}{vs:List Value}{n:Nat}{P:Fin->Shared->Prop}(ho:s.heap.get? a=some (seqObj "list" vs.toArray n))(hz:vs.length<=sizeLine)(h64:vs.length<64)
  (L:∀h':Heap,(∀b o,b≠a->s.heap.get? b=some o->h'.get? b=some o)->zbo prog w A { s with heap:=h' } κ kd) (h0:KeysOf κ (pairsOf vs))
  (hkk:2<=vs.length->∀(h':Heap) (Q:SortKind->Shared->Prop),(∀b o,b≠a->s.heap.get? b=some o->h'.get? b=some o)->Q kd { s with heap:=h' }->wpAny (model prog w) A (keyKind' vs.toArray) Q E { s with heap:=h' })
  (h:∀out:Array Keyed,out.Perm (pairsOf vs)->SortedToK κ out (pairsOf vs).size->P (.done (.ret .none)) { s with heap:=sortedHeap s.heap a vs (out.map (·.2)) }) :
  wpAny (model prog w) A (Builtin.«list.sort» ⟨[.ref a],[]⟩) P E s:=by
 rw[list_sort_plain];have la:a<s.heap.objs.size:=Heap.lt_size ho;refine wpAny_bind (listItems_at ho rfl ?_);refine wpAny_bind (listUpdate_at ho rfl ?_ (by simpa using hz) (Nat.zero_le _));obtain⟨e1,g1⟩:∃e1,(s.heap.update a (Obj.mapSeq λ_=>#[])).get? a=some (seqObj "list" #[] e1):=⟨_,get?_update_seq ho (λ_=>#[])⟩
 refine wpAny_bind (seqEpoch_at g1 rfl ?_);refine wpAny_bind (wpAny_newTuple ?_ (by simpa using hz));refine wpAny_bind (wpAny_newList ?_ (Nat.zero_le _));refine wpAny_holding ?_;have g6:(((s.heap.update a (Obj.mapSeq λ_=>#[])).push (seqObj "tuple" vs.toArray 0)).push (seqObj "list" #[] 0)).get? a=some (seqObj "list" #[] e1):=Heap.get?_push_of_some _ (Heap.get?_push_of_some _ g1);have keep:∀b o,b≠a->s.heap.get? b=some o->(((s.heap.update a (Obj.mapSeq λ_=>#[])).push (seqObj "tuple" vs.toArray 0)).push (seqObj "list" #[] 0)).get? b=some o:=λb o nb e=>Heap.get?_push_of_some _ (Heap.get?_push_of_some _ (by rw[Heap.get?_update_ne _ _ _ _ nb];exact e));show wpAny (model prog w) A _ P E { s with heap:=((s.heap.update a (Obj.mapSeq λ_=>#[])).push (seqObj "tuple" vs.toArray 0)).push (seqObj "list" #[] 0) };dsimp only;have sz:vs.toArray.size=vs.length:=by simp
 by_cases c:vs.toArray.size<2
 ·rw[if_pos c,if_pos c];refine wpAny_bind (wpAny_pure ?_);rw[StateT.run_pure];refine wpAny_bind (wpAny_pure ?_);dsimp only;refine wpAny_bind (seqEpoch_at g6 rfl ?_);refine wpAny_bind (listUpdate_at g6 rfl ?_ (Nat.zero_le _) (by show(Array.map _ (pairsOf vs)).size<=_;rw[Array.size_map,pairsOf_size,sizeLine_eq];omega));simp only[bne_self_eq_false,Bool.false_eq_true,if_false];refine wpAny_pure (h (vs.toArray.zip vs.toArray) (Array.Perm.refl _) λi j hij hj=>?_);have:i=j:=by rw[pairsOf_size]at hj;omega
  subst this;exact KeyOrd.kle_refl _
 ·rw[if_neg c,if_neg c];refine wpAny_bind (hkk (by omega) _ _ keep ?_)
  refine wpAny_bind (wpAny_mono (zbx (κ:=κ) (kd:=kd) (a₀:=pairsOf vs) (st:=SortSt.mk' kd (vs.toArray.zip vs.toArray) #[] 7 none)
   (Q:=λ_ st'=>(arrOf st').Perm (pairsOf vs)/\failedOf st'=none/\SortedToK κ (arrOf st') (pairsOf vs).size) (L _ keep)
   h0 ⟨Array.Perm.refl _,rfl,rfl⟩ rfl (by rw[pairsOf_size];omega) (by rw[pairsOf_size];exact h64) λst' g' s'=>⟨g'.perm,g'.fail,s'⟩) ?_ λ_ _ e=>e)
  rintro ⟨⟨⟩,st'⟩ s' ⟨rfl,hp,hf,hs⟩;dsimp only;refine wpAny_bind (seqEpoch_at g6 rfl ?_);refine wpAny_bind (listUpdate_at g6 rfl ?_ (Nat.zero_le _) (by
   show(Array.map _ (arrOf st')).size<=_;rw[Array.size_map,hp.size_eq,pairsOf_size];omega))
  rw[hf];simp only[bne_self_eq_false,Bool.false_eq_true,if_false];exact wpAny_pure (h (arrOf st') hp hs)
theorem zet{κ:KeyKind}{kd:SortKind}{l:Addr}{T:String}{o:Obj}{vs:List Value}{n:Nat}{Q:Value->Shared->Prop}(hT:T = "list" \/ T = "tuple")(ho:s.heap.get? l=some o)(hc:o.cls=.type T)(hd:o.data=.seq vs.toArray n)(hz:vs.length<=sizeLine)(h64:vs.length<64)
  (L:∀(A':Around) (h':Heap),A'.units<=A.units+8->(∀b o,s.heap.get? b=some o->h'.get? b=some o)->zbo prog w A' { s with heap:=h' } κ kd) (h0:KeysOf κ (pairsOf vs))
  (hkk:2<=vs.length->∀(A':Around) (E':Value->Shared->Prop) (h':Heap) (Q:SortKind->Shared->Prop),(∀b o,s.heap.get? b=some o->h'.get? b=some o)->Q kd { s with heap:=h' }->wpAny (model prog w) A' (keyKind' vs.toArray) Q E' { s with heap:=h' })
  (h:∀(out:Array Keyed) (h':Heap) (r:Addr) (e:Nat),out.Perm (pairsOf vs)->SortedToK κ out (pairsOf vs).size->s.heap.objs.size<=r->h'.get? r=some (seqObj "list" (out.map (·.2)) e)->(∀b o,s.heap.get? b=some o->h'.get? b=some o)->Q (.ref r) { s with heap:=h' }) :
  wpAny (model prog w) A (call (.builtin "sorted") [.ref l]) Q E s:=by
 refine Calls.call_function_entry kind_sorted plain_sorted entry_sorted (args_sorted1 _) ?_;unfold Builtin.«sorted»;refine wpAny_bind (m:=checkCount "sorted" 1 1 _) (wpAny_pure ?_);refine wpAny_bind (zlj hT ho hc hd (by simpa using hz) ?_);rw[List.toList_toArray];refine wpAny_bind (wpAny_newList ?_ hz);have es:((s.heap.push (seqObj "list" #[] 0)).update s.heap.objs.size (Obj.mapSeq (·++vs.toArray))).objs.size=s.heap.objs.size+1:=by rw[Heap.size_update,size_push']
 have gL:(((s.heap.push (seqObj "list" #[] 0)).update s.heap.objs.size (Obj.mapSeq (·++vs.toArray))).push (seqObj "list" vs.toArray 0)).get? (s.heap.objs.size+1)=some (seqObj "list" vs.toArray 0):=by rw[<-es];exact Heap.get?_push_size _ rfl
 have k2:∀b o,s.heap.get? b=some o->(((s.heap.push (seqObj "list" #[] 0)).update s.heap.objs.size (Obj.mapSeq (·++vs.toArray))).push (seqObj "list" vs.toArray 0)).get? b=some o:=λb o e=>
  Heap.get?_push_of_some _ (by rw[Heap.get?_update_ne _ _ _ _ (Nat.ne_of_lt (Heap.lt_size e))];exact Heap.get?_push_of_some _ e)
 have nb:∀b o,s.heap.get? b=some o->b≠s.heap.objs.size+1:=λb o e=>Nat.ne_of_lt (Nat.lt_succ_of_lt (Heap.lt_size e));show wpAny _ _ _ _ _ { s with heap:=((s.heap.push (seqObj "list" #[] 0)).update s.heap.objs.size (Obj.mapSeq (·++vs.toArray))).push (seqObj "list" vs.toArray 0) };rw[es];refine wpAny_bind (wpAny_holding (wpAny_call_entry slot_list_sort ⟨_,gL,rfl⟩ entry_list_sort (zg4 (κ:=κ) (kd:=kd) gL hz h64 (λh' k'=>L _ h' (zqh A) λb o e=>k' b o (nb b o e) (k2 b o e)) h0 (λh2 h' Q k' q=>hkk h2 _ _ h' Q (λb o e=>k' b o (nb b o e) (k2 b o e)) q) λout p1 p2=>⟨_,rfl,?_⟩) (args_list_sort _)));refine wpAny_pure ⟨_,rfl,?_⟩;obtain⟨e,he⟩:=sortedAll_at s.heap vs (out.map (·.2));exact h out _ _ e p1 p2 (Nat.le_succ _) he λb o z=>sortedAll_old z
end
end SQ
namespace L2
open PySem PySem.Spec PyProof.Rows SQ
section
variable {X:Cx}
theorem zcz{pins:List (Addr×Obj)}{σ:St}{H:Hp}{s:Shared}{Q:List D->Prop}{xs:List D}{vs:List V}{us:List Value}{a:Addr}{T:String}{o:Obj}{n:Nat}(I:Inv X pins σ H s)(r:Reps X.K H xs vs)(rv:Vals vs us)(hT:T = "list" \/ T = "tuple")(ho:s.heap.get? a=some o)(hc:o.cls=.type T)(hd:o.data=.seq us.toArray n)(hz:vs.length<=sizeLine)(h64:vs.length<64)(q:zfp xs Q):
  wpAny (model X.prog X.w) X.A (call (.builtin "sorted") [.ref a]) (zgk X pins σ H Q) X.xe s:=by
 have zu:us.length<=sizeLine:=by rw[<-rv.length];exact hz
 have fin:∀(out:Array Keyed) (h':Heap) (p:Addr) (e:Nat) (ys:List D) (vs':List V),(out.map (·.2)).toList.Perm us->Vals vs' (out.map (·.2)).toList->Reps X.K H ys vs'->s.heap.objs.size<=p->h'.get? p=some (seqObj "list" (out.map (·.2)) e)->(∀b o,s.heap.get? b=some o->h'.get? b=some o)->Q ys->zgk X pins σ H Q (.ref p) { s with heap:=h' }:=by
  intro out h' p e ys vs' pm rv' r' hp g k qy;have hn:=I.hok.fresh hp;have lv:vs'.length<=sizeLine:=by rw[rv'.length,pm.length_eq];exact zu
  exact⟨p,_,vs',ys,rfl,I.laid (t':=s.toks) (o:=.lst vs') k hp ⟨lv,(out.map (·.2)).toList,e,rv',g⟩,zy hn _,hn,zj,r'.same (zy hn _),qy⟩
 rcases q with⟨ns,rfl,q⟩ |⟨tss,rfl,hne,q⟩
 ·have e1:=Reps.of_ints r;subst e1;have hi:=vq rv
  have hk:∀v∈us,∃k,intK.keyOf v=some k:=λv hv=>by
   obtain⟨i,t,rfl⟩:=hi.all v hv;exact⟨i,rfl⟩
  refine zet (κ:=intK) (kd:=oneType') hT ho hc hd zu (by rw[<-rv.length];exact h64) (λA' h' _ _=>zqi) (za1 hk) (λh2 A' E' h' Q' k q=>?_) λout h' p e p1 p2 hp g k=>?_
  ·cases us with
   |nil=>simp at h2
   |cons u us=>
    cases us with
    |nil=>simp at h2
    |cons u2 us=>rw[keyKind_ints hi];exact wpAny_pure q
  ·obtain⟨pm,ks,a2,pw⟩:=zep p1 p2 hk;obtain⟨vs',ds',rv',r',pd⟩:=zeq pm rv r;obtain⟨ms,rfl,pms⟩:=zgy deI zqj pd;have e2:=Reps.of_ints r';subst e2
   have ek:ks=ms:=by
    have hm:=vq rv';clear pm pms pw pd r' rv';generalize (out.map (·.2)).toList=l at hm a2
    induction a2 generalizing ms with
    |nil=>cases hm;rfl
    |cons h t ih=>
     cases hm with
     |cons i t' h'=>
      simp only[intK,Option.some.injEq]at h;subst h;rw[ih _ h']
   subst ek;have:=qh pms (pw.imp λh=>by simpa[intK,KeyOrd.kle]using h);exact fin out h' p e _ _ pm rv' r' hp g k (by rw[this];exact q)
 ·have rf:=j1 I r rv
  have hk:∀v∈us,∃k,(zdp s.heap).keyOf v=some k:=λv hv=>by
   obtain⟨t,_,h⟩:=rf.mem hv;exact⟨t,zbp h⟩
  refine zet (κ:=zdp s.heap) (kd:=tuples' true) hT ho hc hd zu (by rw[<-rv.length];exact h64) (λA' h' _ k=>zj8 k) (za1 hk) (λh2 A' E' h' Q' k q=>zeo (rf.imp λ_ _ h=>h.keep k) hne h2 q) λout h' p e p1 p2 hp g k=>?_;obtain⟨pm,ks,a2,pw⟩:=zep p1 p2 hk;obtain⟨vs',ds',rv',r',pd⟩:=zeq pm rv r;obtain⟨ss,rfl,pms⟩:=zgy deT ztz pd;have rf':=j1 I r' rv';have ek:ks=ss:=by
   clear pm pms pw r' rv' pd;generalize (out.map (·.2)).toList=l at rf' a2
   induction a2 generalizing ss with
   |nil=>cases rf';rfl
   |cons h t ih=>
    cases rf' with
    |cons h1 t1=>
     have:=zbp h1;rw[show(zdp s.heap).keyOf _=refKey s.heap _ from rfl,this]at h
     cases h;rw[ih _ t1]
  subst ek;have:=ziu pms (pw.imp λh=>by simpa[zdp,KeyOrd.kle]using h);exact fin out h' p e _ _ pm rv' r' hp g k (by rw[this];exact q)
def ziw:List D->(List D->Prop)->Prop
 |[.list xs],Q=>xs.length<64/\zfp xs Q
 |[.tuple xs],Q=>xs.length<64/\zfp xs Q
 |_,_=>False
theorem zfq:CallF X (.builtin "sorted") ziw:=⟨λpins s σ H vs us ds Q I rv rd q=>by
 match ds,q,rd with
 |[.list xs],q,rd=>
  obtain⟨v,rfl,r⟩:=rd.one;obtain⟨a,vs,rfl,h,r⟩:=r.list.sq;obtain⟨u,rfl,r1⟩:=rv.one
  cases r1;obtain⟨its,rvs,pl,hz⟩:=I.list h;obtain⟨o,ho,hc,n,hd⟩:=pl.isList;exact zcz I r rvs (.inl rfl) ho hc hd hz (by rw[<-r.length];exact q.1) q.2
 |[.tuple xs],q,rd=>
  obtain⟨v,rfl,r⟩:=rd.one;obtain⟨a,vs,rfl,h,r⟩:=r.tuple;obtain⟨u,rfl,r1⟩:=rv.one
  cases r1;obtain⟨its,rvs,⟨o,ho,hc,n,hd⟩,hz⟩:=I.tuple h;exact zcz I r rvs (.inr rfl) ho hc hd hz (by rw[<-r.length];exact q.1) q.2⟩
end
end L2
namespace L2
open PySem PySem.Spec PyProof.Rows PySem.Builtin PySem.Builtin.Str
def tx(x:Str):List Nat:=x.cps.toList
end L2
namespace L2
open PySem PySem.Spec PyProof.Rows
structure Sl(fs:List Addr)(e:Addr)(h h':Heap):Prop where
 keep:∀b o,h.get? b=some o->b≠e->b∉fs->h'.get? b=some o
 slot:∀b o,h.get? b=some o->b≠e->∃sl,h'.get? b=some { o with slots:=sl }
def Fly(h:Heap)(e:Addr)(cls:Value)(od:Option Addr):Prop :=
 ∃oe vs T oT ts,h.get? e=some oe/\(oe.cls=cls/\oe.dict=od)/\oe.data=.fields vs/\vs[1]?=some (.ref T)/\T≠e/\h.get? T=some oT/\oT.data=.fields ts/\ts[3]?=some .none
def zt1(h:Heap)(e:Addr)(cls:Value)(od:Option Addr):Prop :=
 Fly h e cls od\/∃oe vs,h.get? e=some oe/\(oe.cls=cls/\oe.dict=od)/\oe.data=.fields vs/\vs[1]?=some .none
theorem zlp(o:Obj)(f):(o.mapFields f).dict=o.dict:=by
 obtain⟨c,d,dt,sl⟩:=o
 cases dt <;> rfl
theorem zeu{o:Obj}{ts:Array Value}{i:Nat}{x:Value}(hd:o.data=.fields ts)(hx:ts[i]?=some x):o.mapFields (·.setIfInBounds i x)=o:=by
 obtain⟨c,d,dt,sl⟩:=o;subst hd;obtain⟨hi,e⟩:=Array.getElem?_eq_some_iff.mp hx;have:ts.setIfInBounds i x=ts:=by
  apply Array.ext
  ·simp
  ·intro j h1 h2;rw[Array.getElem_setIfInBounds]
   split
   ·next q=>subst q;exact e.symm
   ·rfl
 show(⟨c,d,.fields (ts.setIfInBounds i x),sl⟩:Obj)=_;rw[this]
theorem za2{h:Heap}{T:Addr}{o:Obj}{ts:Array Value}{i:Nat}{x:Value}(e:h.get? T=some o)(hd:o.data=.fields ts)(hx:ts[i]?=some x)(b:Addr):
  (h.update T (Obj.mapFields (·.setIfInBounds i x))).get? b=h.get? b:=by
 by_cases q:T=b
 ·subst q;rw[Heap.get?_update_self _ e (by rw[zeu hd hx];exact Obj.isFreed_of_fields hd),zeu hd hx,e]
 ·exact Heap.get?_update_other _ _ q
section
variable {M:Model}{A:Around}{E:Value->Shared->Prop}{s:Shared}{base:Heap}{env:Env}{outer:List Env}{L e:Addr}{Q:Unit->Shared->Prop}
theorem zc0{oe:Obj}{vs:Array Value}{hd0:Value}{nxt:Bool}(hfr:A.frames=some (env::outer))(hl:s.heap.FunFrames base (env::outer))(hf:env.frame=some L)
  (he:s.heap.get? e=some oe) (hd:oe.data=.fields vs) (hsz:1<vs.size) (k:∀h',Sl (frs (env::outer)) e s.heap h'->Fly h' e oe.cls oe.dict->Q () { s with heap:=h' }) :
  wpAny M A (do let a <-frameOf env;let pl <-entryPlaceOf L nxt;let b <-EntryCells.newEntry hd0 a .none (rawInt L) .none pl;setField (.ref e) 1 b) (λ_ s'=>wpAny M A (setFlight (.ref e) none) Q E s') E s:=by
 have nin:e∉frs (env::outer):=λhm=>by
  obtain⟨_,o,ho,hnf⟩:=hl.mem hm;have z:=he.symm.trans ho
  cases z;exact hnf vs hd
 refine wpAny_bind (wpAny_frameOf_fun hfr hl hf λg1 so=>wpAny_bind (wpAny_entryPlaceOf λpl hpl=>?_));unfold EntryCells.newEntry newFields;refine wpAny_bind (wpAny_newObj_type ?_ (hpl.sizeOk5 _ _ _ _ _));generalize ek:([hd0,.ref L,.none,rawInt L,.none]++(if pl.isEmpty then List.replicate 6 Value.none else pl)).toArray=tb;have tbz:3<tb.size:=by rw[<-ek];simp only[List.size_toArray,List.length_append,List.length_cons,List.length_nil];omega
 have e1:g1.get? e=some oe:=(so.2.1 e nin).trans he;have ne:g1.objs.size≠e:=Nat.ne_of_gt (Heap.lt_size e1);have e2:=Heap.get?_push_of_some (h:=g1) { cls:=.type "traceback",dict:=none,data:=.fields tb } e1;refine wpAny_setField e2 hd hsz ?_;have d3:=Obj.data_mapFields hd (·.setIfInBounds 1 (Value.ref g1.objs.size));have e3:=Heap.get?_update_self (Obj.mapFields (·.setIfInBounds 1 (Value.ref g1.objs.size))) e2 (Obj.isFreed_of_fields d3);have t3:((g1.push { cls:=.type "traceback",dict:=none,data:=.fields tb }).update e (Obj.mapFields (·.setIfInBounds 1 (Value.ref g1.objs.size)))).get? g1.objs.size=some { cls:=.type "traceback",dict:=none,data:=.fields tb } :=
  (Heap.get?_update_other _ _ (Ne.symm ne)).trans (Heap.get?_push_size g1 rfl)
 unfold setFlight;refine wpAny_bind (wpAny_field e3 d3 (x:=.ref g1.objs.size) (by simp[hsz]) ?_);rw[if_pos (show(Value.ref g1.objs.size != Value.none)=true by simp)];refine wpAny_setField t3 rfl tbz (k _ ?_ ?_)
 ·have kp:∀b o,b≠e->g1.get? b=some o->(((g1.push { cls:=.type "traceback",dict:=none,data:=.fields tb }).update e (Obj.mapFields (·.setIfInBounds 1 (Value.ref g1.objs.size)))).update g1.objs.size (Obj.mapFields (·.setIfInBounds 3 ((none:Option Addr).elim Value.none λf=>rawInt f)))).get? b=some o:=λb o nb hb=>by
   rw[Heap.get?_update_other _ _ (Nat.ne_of_gt (Heap.lt_size hb)),Heap.get?_update_other _ _ (Ne.symm nb)];exact Heap.get?_push_of_some _ hb
  refine⟨λb o hb nb nf=>kp b o nb ((so.2.1 b nf).trans hb),λb o hb nb=>?_⟩;obtain⟨sl,hs⟩:=so.2.2 b o hb;exact⟨sl,kp b _ nb hs⟩
 ·refine⟨_,_,g1.objs.size,_,_,(Heap.get?_update_other _ _ ne).trans e3,⟨Obj.cls_mapFields _ _,zlp _ _⟩,d3,by simp[hsz],ne,Heap.get?_update_self _ t3 (Obj.isFreed_of_fields (Obj.data_mapFields rfl _)),Obj.data_mapFields rfl _,?_⟩;simp[tbz]
theorem zrw{cls:Value}{od:Option Addr}(hfr:A.frames=some (env::outer))(hl:s.heap.FunFrames base (env::outer))(hf:env.frame=some L)(hy:zt1 s.heap e cls od)
  (k:∀h',Sl (frs (env::outer)) e s.heap h'->Fly h' e cls od->Q () { s with heap:=h' }) :
  wpAny M A (noteFrame (.ref e) env) (λ_ s'=>wpAny M A (setFlight (.ref e) none) Q E s') E s:=by
 unfold noteFrame;simp only[hf];rcases hy with⟨oe,vs,T,oT,ts,he,⟨rfl,rfl⟩,hd,h1,nT,hT,dT,h3⟩ |⟨oe,vs,he,⟨rfl,rfl⟩,hd,h1⟩
 ·refine wpAny_bind (wpAny_field he hd h1 ?_);rw[if_pos (show(Value.ref T != Value.none)=true by simp)];refine wpAny_bind (wpAny_field hT dT h3 ?_);rw[if_neg (show ¬ ((Value.none == rawInt L)=true) by simp[rawInt])];refine wpAny_bind (wpAny_setField hT dT (Array.getElem?_eq_some_iff.mp h3).1 ?_);have sm:=za2 hT dT h3;refine zc0 hfr (hl.of_keeps λb o hb _=>⟨o,(sm b).trans hb,rfl⟩) hf ((sm e).trans he) hd (Array.getElem?_eq_some_iff.mp h1).1 λh' S F=>k h' ⟨λb o hb=>S.keep b o ((sm b).trans hb),λb o hb=>S.slot b o ((sm b).trans hb)⟩ F
 ·refine wpAny_bind (wpAny_field he hd h1 ?_);rw[if_neg (by decide)];exact zc0 hfr hl hf he hd (Array.getElem?_eq_some_iff.mp h1).1 k
theorem zt2{cls:Value}{od:Option Addr}(hfr:A.frames=some (env::outer))(hl:s.heap.FunFrames base (env::outer))(hf:env.frame=some L)(hy:zt1 s.heap e cls od)
  (k:∀h',Sl (frs (env::outer)) e s.heap h'->Fly h' e cls od->Q () { s with heap:=h' }):wpAny M A (leaving env (.ref e)) Q E s:=by
 unfold leaving;exact wpAny_bind (zrw hfr hl hf hy k)
theorem zvr{cls:Value}{od:Option Addr}(hy:Fly s.heap e cls od)(k:∀h',(∀b,h'.get? b=s.heap.get? b)->Q () { s with heap:=h' }):wpAny M A (setFlight (.ref e) none) Q E s:=by
 obtain⟨oe,vs,T,oT,ts,he,_,hd,h1,nT,hT,dT,h3⟩:=hy;unfold setFlight;refine wpAny_bind (wpAny_field he hd h1 ?_);rw[if_pos (show(Value.ref T != Value.none)=true by simp)];exact wpAny_setField hT dT (Array.getElem?_eq_some_iff.mp h3).1 (k _ (za2 hT dT h3))
end
def CXk(P:Program)(w:World):CXT:=λouter H s E e s'=>∃a C od H',e=.ref a/\s'.os=s.os/\AllBare s'.gens/\Un (frs outer) [] H H' s.heap s'.heap/\HOk P w H' s'.heap /\
 s.heap.get? a=none/\H' a=none/\Fly s'.heap a (.ref C) od/\E (.ref C) od H'
section
variable {fs fs':List Addr}{H H1:Hp}{h h1 h2:Heap}{a:Addr}{P:Program}{w:World}
theorem Un.sl(u:Un fs [] H H1 h h1)(S:Sl fs' a h1 h2)(hf:∀b o,b∈fs'->h.get? b=some o->b∈fs)(ha:h.get? a=none):Un fs [] H H1 h h2 where
 keep:=λb o e n hb hx=>S.keep b o (u.keep b o e n hb hx) (λz=>by rw[z,ha]at e;cases e) λz=>hb (hf b o z e)
 slot:=λb o e n hb hx=>by
  obtain⟨sl,e1⟩:=u.slot b o e n hb hx;obtain⟨sl',e2⟩:=S.slot b _ e1 λz=>by rw[z,ha]at e;cases e
  exact⟨sl',e2⟩
 free:=u.free
 there:=λb o e hx=>by
  obtain⟨o',e1⟩:=u.there b o e hx;obtain⟨sl,e2⟩:=S.slot b _ e1 λz=>by rw[z,ha]at e;cases e
  exact⟨_,e2⟩
 tups:=u.tups
 frzs:=u.frzs
 tbls:=u.tbls
theorem HOk.sl(hok:HOk P w H1 h1)(S:Sl fs' a h1 h2)(hf:∀b∈fs',H1 b=none)(ha:H1 a=none):HOk P w H1 h2:=λb o e=>by
 have ne:∀c u,H1 c=some u->c≠a/\c∉fs':=λc u q=>⟨λz=>(by rw[z,ha]at q;cases q),λz=>by rw[hf c z]at q;cases q⟩
 refine(hok b o e).stay (λc u hc q=>?_) (λ_ q=>q) λ_ _ q=>q;rcases hc with rfl|hc
 ·exact S.keep c u q (ne c o e).1 (ne c o e).2
 ·exact S.keep c u q (ne c _ hc).1 (ne c _ hc).2
end
theorem zrx{P:Program}{w:World}{K:PySem.W.Frag}{mg:Str->Option Value}{base:Heap}{N:List Str}{qual:Str}{scope:Scope}{f:Addr}{cd:Value}{A:Around}{outer:List Env}{s s1:Shared}{H H1:Hp}{E:XK}{pins:List (Addr×Obj)}{σ:St}{a C:Addr}{od:Option Addr}
  (I:Inv (vj (CXk P w) P w K mg base N qual scope f cd A outer s H E) pins σ H1 s1) (hy:zt1 s1.heap a (.ref C) od) (hn:s.heap.get? a=none) (hf:H1 a=none) (hE:E (.ref C) od H1) :
  (vj (CXk P w) P w K mg base N qual scope f cd A outer s H E).xe (.ref a) s1:=by
 refine zt2 (base:=base) (outer:=outer) I.ok.frames I.stack rfl hy λh' S F=>?_;refine⟨a,C,od,H1,rfl,I.os,I.bare,Un.sl (show Un (frs outer) [] H H1 s.heap s1.heap from I.base) S (λb o hb e=>?_) hn,HOk.sl I.hok S (λb hb=>I.stkFree b hb) hf,hn,hf,F,hE⟩;rcases List.mem_cons.mp (I.stkSub b hb) with q|q
 ·rw[q]at e;exact absurd (Nat.lt_of_lt_of_le (Heap.lt_size e) I.ok.above) (Nat.lt_irrefl _)
 ·exact q
theorem zt3{K:PySem.W.Frag}{h:Heap}{C:Addr}{bmB:List Value}{newId:String}(X:K.In h)(q:PySem.W.excIn K C bmB newId=true):
  ∃nm qn N bs bm hd sn sub ab col dd k0 k1 k2 k3 k5 mN,h.get? C=some (excClassObj nm qn C N bs bm hd sn sub ab col dd k0 k1 k2 k3 k5 newId)/\h.Ns N mN/\mN "__init__" = none/\OwnTail h bmB bm:=by
 unfold PySem.W.excIn at q
 split at q
 ·next dd cd sl ho=>
  split at q
  ·next C' bm k0 k1 k2 k3 n k5 hm hs=>
   simp only[Bool.and_eq_true,beq_iff_eq,Bool.not_eq_true']at q;obtain⟨⟨⟨⟨⟨rfl,rfl⟩,z1⟩,z2⟩,z3⟩,z4⟩:=q;obtain⟨nm,bs,mro,ns,qn,hd,sn,sub,ab,col,del⟩:=cd;obtain⟨l⟩:=sl;dsimp only at hm z1 z3 z4 hs;subst hm z1 hs;exact⟨nm,qn,ns,bs,bm,hd,sn,sub,ab,col,dd,k0,k1,k2,k3,k5,_,X _ _ ho,.of_isNs (PySem.W.isNs_of_in X z3),PySem.W.nsMap_none_of_in X z3 z4,PySem.W.tail_of_in X z2⟩
  ·cases q
 ·cases q
theorem ObjOk.ex{P:Program}{w:World}{H:Hp}{h:Heap}{a:Addr}{o:HO}(x:ObjOk P w H h a o):∃u,h.get? a=some u:=by
 cases o with
 |lst xs=>obtain⟨_,_,_,_,e⟩:=x;exact⟨_,e⟩
 |tup xs=>obtain⟨_,_,_,o,e,_⟩:=x;exact⟨_,e⟩
 |dK kvs=>obtain⟨_,_,_,_,o,_,_,e,_⟩:=x;exact⟨_,e⟩
 |dT kvs=>obtain⟨_,_,_,_,o,_,_,e,_⟩:=x;exact⟨_,e⟩
 |set S n=>obtain⟨o,_,_,_,e,_⟩:=x;exact⟨_,e⟩
 |ins C dx fs=>obtain⟨_,_,_,e,_⟩:=x;exact⟨_,e⟩
 |own y=>exact x
 |xd fs=>obtain⟨_,⟨_,_,_,e,_⟩,_⟩:=x;exact⟨_,e⟩
 |rng lo hi=>obtain⟨_,_,_,e⟩:=x;exact⟨_,e⟩
 |frz ob u=>exact⟨_,x.1⟩
 |tbl ps=>obtain⟨_,_,_,_,e,_⟩:=x;exact⟨_,e⟩
 |met f y=>exact⟨_,x⟩
 |ext φ=>exact x.2.1
theorem zt4{P:Program}{w:World}{K:PySem.W.Frag}{mg:Str->Option Value}{base:Heap}{N:List Str}{qual:Str}{scope:Scope}{f:Addr}{cd:Value}{A:Around}{outer:List Env}{s s1:Shared}{H H1:Hp}{E:XK}{pins:List (Addr×Obj)}{σ:St}{C:Addr}{x:Str}{np cpos pos:Pos}{Q:Flow->Shared->Prop}
  (I:Inv (vj (CXk P w) P w K mg base N qual scope f cd A outer s H E) pins σ H1 s1) (hh:A.handled=none) (hg:Gl (vj (CXk P w) P w K mg base N qual scope f cd A outer s H E) x) (hm:mg x=some (.ref C))
  (q:PySem.W.excIn K C [.type "ValueError",.type "Exception",.type "BaseException",.type "object"] "ValueError.__new__" = true) (hE:E (.ref C) none H1) (hdb:(x ==("__debug__" : Str))=false:=by decide) :
  wpAny (model P w) (A.deeper (envOfC qual scope s.heap.objs.size f cd)) (exec (.Raise (some (.Call (.Name x np) [] [] cpos)) none pos) (envOfC qual scope s.heap.objs.size f cd)) Q (vj (CXk P w) P w K mg base N qual scope f cd A outer s H E).xe s1:=by
 obtain⟨nm,qn,Nn,bs,bm,hd,sn,sub,ab,col,dd,k0,k1,k2,k3,k5,mN,hC,hN,hni,T⟩:=zt3 I.kIn q;refine wpAny_Raise_call_subU (C:=C) (nm:=nm) (q:=qn) (N:=Nn) (bs:=bs) (bm:=bm) (hdct:=hd) (sn:=sn) (sub:=sub) (ab:=ab) (col:=col) (dd:=dd) (k0:=k0) (k1:=k1) (k2:=k2) (k3:=k3) (k5:=k5) (newId := "ValueError.__new__")
  PySem.F.excBase_ValueError rfl PySem.F.excBase_ValueError (mN:=mN) (T.hasType rfl) hh rfl hni (kb I hg hm ⟨rfl,?_⟩ hdb)
 refine evalArgs_empty ⟨rfl,Nat.zero_le _,hC,hN,T,λh' e mk=>?_⟩;have J:=I.kept (t':=s1.toks) mk.keeps;obtain⟨t,he,_,_⟩:=mk.there;have ne:∀b u,H1 b=some u->b≠e:=λb u z q=>by
  have:=mk.new;rw[<-q]at this;obtain⟨o,ho⟩:=(I.hok b u z).ex;rw[ho]at this
  cases this
 refine zrx J (.inr ⟨_,_,he,⟨rfl,rfl⟩,rfl,rfl⟩) ?_ ?_ hE
 ·cases z:s.heap.get? e with
  |none=>rfl
  |some o=>
   obtain⟨o',e'⟩:=I.base.there e o z (by intro y;cases y);rw[mk.new]at e'
   cases e'
 ·cases z:H1 e with
  |none=>rfl
  |some u=>exact absurd rfl (ne e u z)
structure Room0(k:Nat)(A:Around):Prop where
 dp:A.depth+3 * k+5<recursionLimit
 un:A.units+16 * k+200<cLine
 gd:A.guards=some []
theorem Room.r0{k:Nat}{A:Around}(r:Room k A):Room0 k A:=⟨r.dp,r.un,r.gd⟩
theorem Room0.mono{j k:Nat}{A:Around}(r:Room0 k A)(h:j<=k):Room0 j A:=⟨by have:=r.dp;omega,by have:=r.un;omega,r.gd⟩
theorem Room0.deeper{k:Nat}{A:Around}(r:Room0 (k+1) A)(env:Env):Room0 k (A.deeper env) :=
 ⟨by have:=r.dp;show A.depth+1+3 * k+5<_;omega,by have:=r.un;show A.units+3+16 * k+200<_;omega,r.gd⟩
theorem Room0.mark{k:Nat}{A:Around}(r:Room0 k A)(e:Option Value):Room0 k (A.mark e):=⟨r.dp,r.un,r.gd⟩
theorem Room0.units{k:Nat}{A:Around}(r:Room0 k A):A.units+64<cLine:=by have:=r.un;omega
def Cx.held(X:Cx)(e:Value):Cx:={ X with A:=X.A.mark (some e),calm:=false,xe:=λ_ _=>False }
section
variable {X:Cx}{pins:List (Addr×Obj)}{σ:St}{H:Hp}{s:Shared}{e:Value}
theorem Inv.held(I:Inv X pins σ H s)(e:Value):Inv (X.held e) pins σ H s :=
 ⟨⟨I.ok.mod,I.ok.kind,I.ok.glob,I.ok.blt,I.ok.above,I.ok.inj,I.ok.has,I.ok.cab,(λz=>nomatch z),I.ok.frames,I.ok.stk,I.ok.exf,I.ok.bs,I.ok.bsz,I.ok.noex,I.ok.exfs,I.ok.funs,I.ok.frf⟩,I.os,I.bare,I.base,I.loc,I.cell,I.free,I.freeC,I.pin,I.hok,I.len⟩
theorem Inv.unheld(ok:X.Ok)(I:Inv (X.held e) pins σ H s):Inv X pins σ H s:=⟨ok,I.os,I.bare,I.base,I.loc,I.cell,I.free,I.freeC,I.pin,I.hok,I.len⟩
theorem Inv.goes(I:Inv X pins σ H s){h':Heap}{m':Str->Option Value}(hn:h'.Ns X.env.locals m')(hs:Heap.SameBut X.env.locals s.heap h')(t:Nat):Inv X pins (List.replicate X.N.length none) H { s with heap:=h',toks:=t }:=by
 have ne:∀b o,X.s₀.heap.get? b=some o->b≠X.env.locals:=λb o e=>Nat.ne_of_lt (Nat.lt_of_lt_of_le (Heap.lt_size e) I.ok.above);refine⟨I.ok,I.os,I.bare,⟨λb o e n hb hx=>?_,λb o e n hb hx=>?_,I.base.free,λb o e hx=>?_,I.base.tups,I.base.frzs,I.base.tbls⟩,⟨m',hn,λj y v e1 e2 _=>?_⟩,λy c e=>?_,I.free,I.freeC,λp hp=>?_,λb ob e=>?_,List.length_replicate⟩
 ·exact(hs.2 b (ne b o e)).trans (I.base.keep b o e n hb hx)
 ·obtain⟨sl,e1⟩:=I.base.slot b o e n hb hx;exact⟨sl,(hs.2 b (ne b o e)).trans e1⟩
 ·obtain⟨o',e1⟩:=I.base.there b o e hx;exact⟨o',(hs.2 b (ne b o e)).trans e1⟩
 ·rw[List.getElem?_replicate]at e2
  split at e2 <;> cases e2
 ·obtain⟨w',z⟩:=I.cell y c e;exact⟨w',z.sameBut hs (I.cne y c e)⟩
 ·obtain⟨e,n,nl,nf,d⟩:=I.pin p hp;exact⟨(hs.2 p.1 nl).trans e,n,nl,nf,d⟩
 ·refine(I.hok b ob e).stay (λc u hc q=>(hs.2 c ?_).trans q) (λ_ q=>q) λ_ _ q=>q;rintro rfl;rcases hc with hc|hc
  ·rw[<-hc,I.free]at e;cases e
  ·rw[I.free]at hc;cases hc
end
structure FnH(P:Program)(w:World)(K:PySem.W.Frag)(mg:Str->Option Value)(base:Heap)(k:Nat)(f:Addr)(fd:FuncData)(ps:List Str)(sp:Sp):Prop where
 len:∀vs H Q E,sp vs H Q E->vs.length=ps.length
 run:∀(A:Around) (outer:List Env) (s:Shared) (H:Hp) (args:Args) (us:List Value) (vs:List V) (Q:VK) (E:XK),Room0 k A->Env0 P w K mg base A outer s H->BindsTo s fd args (ps.zip us)->Vals vs us->sp vs H Q E ->
  codeAny (model P w) A (.call (.ref f) args) (CR CX0 outer P w H s Q E) s
def za3(P:Program)(w:World)(K:PySem.W.Frag)(mg:Str->Option Value)(base:Heap)(k:Nat)(x:Str)(ps:List Str)(sp:Sp):Prop :=
 ∃f fd,FnH P w K mg base k f fd ps sp/\Binds K fd ps []/\PySem.W.keepIn K (.ref f)=true/\mg x=some (.ref f)
def cxH(P:Program)(w:World)(K:PySem.W.Frag)(mg:Str->Option Value)(base:Heap)(N:List Str)(qual:Str)(scope:Scope)(f:Addr)(cd:Value)(A:Around)(outer:List Env)(s:Shared)(H:Hp):Cx :=
 { vj CX0 P w K mg base N qual scope f cd A outer s H E0 with calm:=false,xe:=λ_ _=>False }
theorem zoj{X:Cx}{k k':Nat}{x:Str}{ps:List Str}{sp:Sp}{e:Expr}{es:List Expr}{t:TA}{p pos:Pos}(C:za3 X.prog X.w X.K X.mg X.base k x ps sp)(hr:Room0 k' X.A)(hg:Gl X x)(ha:PA X (e::es) t)(hk:k<=k')
  (hdb:(x ==("__debug__" : Str))=false) (he:starEach (e::es) X.env=(false,eval e X.env)::starEach es X.env) (hpl:(backTo pos (starEach es X.env)).any (·.1)=false):PE X (.Call (.Name x p) (e::es) [] pos) (zjk sp [] E0 t):=by
 intro pins s σ H Q I h;obtain⟨f,fd,F,b,kp,m⟩:=C;refine wpAny_Call_Name_kw (kb I hg m ?_ hdb);refine PySem.W.callWith_K (h₀:=X.base) I.ok.mod.kin kp (thn (ha pos pins s σ H _ I h) λus s1 ⟨vs,H1,I1,r,q⟩=>⟨I1.kIn,?_⟩) he hpl;have q':sp vs H1 Q E0:=by
  have z:sp (vs ++ []) H1 Q E0:=q;rw[List.append_nil]at z;exact z
 have hl:us.length=ps.length:=by rw[<-r.length];exact F.len _ _ _ _ q'
 have bb:BindsTo s1 fd ⟨us,[]⟩ (ps.zip us):=by
  have:=b s1 us I1.kIn (by rw[List.append_nil];exact hl);rw[List.append_nil]at this;exact this
 refine wpAny_call (codeAny_mono (F.run X.A X.stack s1 H1 ⟨us,[]⟩ us vs Q E0 (hr.mono hk) I1.env0 bb r q') λr s' hq=>?_)
 cases r with
 |error e=>exact False.elim hq
 |ok fl=>
  cases fl with
  |ret u=>exact I1.after hq
  |next=>exact False.elim hq
  |brk=>exact False.elim hq
  |cont=>exact False.elim hq
section
variable {P:Program}{w:World}{K:PySem.W.Frag}{mg:Str->Option Value}{base:Heap}
theorem Fun.dokH{x qual:Str}{st:Stmt}{f:Addr}{fd:FuncData}{N ps:List Str}{k:Nat}{sp:DSp}(F:Fun K x qual st f fd)(S:yb N ps (zc st))(len:∀ws Q,sp ws Q->ws.length=ps.length)
  (hbody:∀(cdv:Value) (A:Around) (outer:List Env) (s:Shared) (H:Hp) (ws:List W) (Q:Ret->Prop),Room0 k (A.deeper (envOfC qual (zc st) s.heap.objs.size f cdv))->sp ws Q ->
   ∃t,DSs (cxH P w K mg base N qual (zc st) f cdv A outer s H) (zh st) t/\t { nx:=λ_=>Q (.val .none),rt:=Q } (jg N ws)):FnH P w K mg base (k+1) f fd ps (yf K sp):=by
 obtain⟨oc,od,kV,doc,pm,an,cdv,ct,osl,rfl,lk,hcd⟩:=F.ex;refine⟨λvs H Q E ⟨ws,QD,r,q,_⟩=>by rw[<-r.length];exact len ws QD q,λA outer s H args us vs Q E hr e0 hb r ⟨ws,QD,rw',q,kk⟩=>?_⟩;have hl:vs.length=ps.length:=by rw[<-rw'.length];exact len ws QD q
 have KX:K.In s.heap:=e0.mod.kin.keeps λb o e=>(e0.bs b o e).1;have lim:s.heap.NoLimit:=e0.mod.nolimit.keeps λb o e=>(e0.bs b o e).1;have hkind:∀y∈ps.zip us,(zc st).names.lookup y.1=some .local\/((zc st).names.lookup y.1=some .cell/\((cellsFrom (s.heap.objs.size+1) (zc st).names []).lookup y.1).isSome=true):=λ⟨n,v⟩ hy=>by
  rcases S.par n (List.of_mem_zip hy).1 with q|q
  ·exact .inl q
  ·exact .inr ⟨q,PySem.W.cellsFrom_some _ _ _ (.inl q)⟩
 refine codeAny_call_function (by have:=hr.dp;omega) (KX _ _ lk) rfl S.co S.gen rfl (PySem.W.codeRec_of KX hcd) (hb _ _ _ _ ?_);refine wpAny_newFunctionEnv_cells S.kind hkind λenv he s1 x=>?_;subst he;refine⟨lim.keeps x.toInCall.keep,codeAny_func ?_⟩;obtain⟨t,ht,hq⟩:=hbody cdv A outer s H ws QD (hr.deeper _) q;have e1:Env0 P w K mg base { A with handled:=none } outer s H:=⟨e0.frames,e0.mod,e0.bs,e0.bsz,e0.funs,e0.frf,e0.hok,e0.bare⟩
 have J:Inv (vj CX0 P w K mg base N qual (zc st) f cdv { A with handled:=none } outer s H E0) [] (qa N vs) H s1:=zbf S rfl e1 hl r x;have I:Inv (cxH P w K mg base N qual (zc st) f cdv A outer s H) [] (qa N vs) H s1 :=
  ⟨⟨J.ok.mod,J.ok.kind,J.ok.glob,J.ok.blt,J.ok.above,J.ok.inj,J.ok.has,J.ok.cab,(λz=>nomatch z),Around.frames_deeper e0.frames,J.ok.stk,J.ok.exf,J.ok.bs,J.ok.bsz,J.ok.noex,J.ok.exfs,J.ok.funs,J.ok.frf⟩,J.os,J.bare,J.base,J.loc,J.cell,J.free,J.freeC,J.pin,J.hok,J.len⟩
 refine wpAny_mono (ht.run [] s1 (qa N vs) H H _ _ I (DOk.begin rw' N) hq) (λfl s' hs=>?_) λe s' hs=>False.elim hs;have fin:∀{σ':St}{H':Hp}{v:V}{u:Value},Inv (cxH P w K mg base N qual (zc st) f cdv A outer s H) [] σ' H' s'->RelV v u->Q v H'->CE outer P w H s Q u s' :=
  λ{σ' H' v u} J rv q=>⟨v,H',J.os,J.bare,J.base,J.hok,rv,q⟩
 cases fl with
 |ret u=>
  obtain⟨v,σ',H',r',J,rv,sm,rp,q'⟩:=hs;exact fin J rv (kk v H' r' sm rp q')
 |next=>
  obtain⟨σ',H',σD',J,ok,_,q'⟩:=hs;exact fin (v:=V.non) (u:=Value.none) J rfl (kk .non H' (.val .none) ok.same .non q')
 |brk=>obtain⟨_,_,_,_,_,_,q'⟩:=hs;exact False.elim q'
 |cont=>obtain⟨_,_,_,_,_,_,q'⟩:=hs;exact False.elim q'
end
abbrev EX:=Str×List (Str×Int)->Prop
abbrev zg5:=List W->(Ret->Prop)->EX->Prop
def XE(K:PySem.W.Frag)(H:Hp)(ex:EX):XK:=λc od H'=>∃x C,c=.ref C/\PySem.W.nsIn K mainGlobals x.1=some (some (.ref C))/\Same H H'/\((x.2 = []/\od=none)\/∃d,od=some d/\H' d=some (.xd (x.2.map λp=>(p.1,V.int p.2))))/\ex x
def kz(K:PySem.W.Frag)(sp:zg5):Sp:=λvs H Q E=>∃ws QD ex,RepWs K H ws vs/\sp ws QD ex/\(∀v H' r,Same H H'->zax K H H' r v->QD r->Q v H')/\∀c od H',XE K H ex c od H'->E c od H'
def CalleeX(P:Program)(w:World)(K:PySem.W.Frag)(mg:Str->Option Value)(base:Heap)(k:Nat)(x:Str)(ps:List Str)(sp:Sp):Prop :=
 ∃f fd,FnOk P w K mg base (CXk P w) k f fd ps sp/\Binds K fd ps []/\PySem.W.keepIn K (.ref f)=true/\mg x=some (.ref f)
structure DSX(X:Cx)(st:Stmt)(t:DTS):Prop where
 run:∀(pins:List (Addr×Obj)) (s:Shared) (σ:St) (H:Hp) (σD:DSt) (Dn:qc),Inv X pins σ H s->DOk X.K X.H₀ H σD σ->t Dn σD->wpAny (model X.prog X.w) X.A (exec st X.env) (DSP X pins X.H₀ H Dn) X.xe s
structure zg6(X:Cx)(st:List Stmt)(t:DTS):Prop where
 run:∀(pins:List (Addr×Obj)) (s:Shared) (σ:St) (H:Hp) (σD:DSt) (Dn:qc),Inv X pins σ H s->DOk X.K X.H₀ H σD σ->t Dn σD->wpAny (model X.prog X.w) X.A (execs st X.env) (DSP X pins X.H₀ H Dn) X.xe s
theorem DSP.unnox{X:Cx}{pins:List (Addr×Obj)}{H₀ H:Hp}{Dn:qc}{f:Flow}{s':Shared}(h:DSP X.nox pins H₀ H Dn f s'):DSP X pins H₀ H Dn f s':=by
 cases f with
 |next=>obtain⟨a,b,c,I,r⟩:=h;exact⟨a,b,c,I.unwish,r⟩
 |brk=>obtain⟨a,b,c,I,r⟩:=h;exact⟨a,b,c,I.unwish,r⟩
 |cont=>obtain⟨a,b,c,I,r⟩:=h;exact⟨a,b,c,I.unwish,r⟩
 |ret u=>obtain⟨v,a,b,q,I,r⟩:=h;exact⟨v,a,b,q,I.unwish,r⟩
section
variable {X:Cx}{st:Stmt}{sts rest:List Stmt}{t u:DTS}{pos:Pos}
theorem zok(h:DS X.nox st t):DSX X st t:=⟨λpins s σ H σD Dn I ok q=>wpAny_mono (h.run pins s σ H X.H₀ σD Dn (I.wish _) ok q) (λ_ _ z=>z.unnox) λ_ _ z=>False.elim z⟩
theorem zqp(h:DSs X.nox sts t):zg6 X sts t:=⟨λpins s σ H σD Dn I ok q=>wpAny_mono (h.run pins s σ H X.H₀ σD Dn (I.wish _) ok q) (λ_ _ z=>z.unnox) λ_ _ z=>False.elim z⟩
theorem zg7:zg6 X [] zjy:=zqp yu
theorem zev(h1:DSX X st t)(h2:zg6 X rest u):zg6 X (st::rest) (zns t u):=⟨λpins s σ H σD Dn I ok q=>by
 refine wpAny_execs_cons (thn (h1.run pins s σ H σD { Dn with nx:=u Dn } I ok q) λf s1 z=>?_)
 cases f with
 |next=>
  obtain⟨σ1,H1,σD1,I1,ok1,p1,q1⟩:=z;exact thn (h2.run pins s1 σ1 H1 σD1 Dn I1 ok1 q1) λ_ _ w'=>w'.back p1
 |brk=>exact z
 |cont=>exact z
 |ret v=>exact z⟩
theorem za4(h1:DSX X st t):zg6 X [st] t:=⟨λpins s σ H σD Dn I ok q=>by
 refine wpAny_execs_cons (thn (h1.run pins s σ H σD Dn I ok q) λf s1 z=>?_)
 cases f with
 |next=>exact wpAny_execs_nil z
 |brk=>exact z
 |cont=>exact z
 |ret v=>exact z⟩
theorem zol{c:Expr}{a b:List Stmt}{tc:DTT}(hc:DT X.nox c tc)(ha:zg6 X a t)(hb:zg6 X b u):DSX X (.If c a b pos) (dIf tc t u):=⟨λpins s σ H σD Dn I ok q=>by
 refine wpAny_If (wpAny_mono (hc.run pins s σ H X.H₀ σD _ (I.wish _) ok q) (λd s1 ⟨H1,I1,sm,q1⟩=>?_) λ_ _ z=>False.elim z)
 cases d with
 |true=>rw[if_pos rfl]at q1;exact thn (ha.run pins s1 σ H1 σD Dn I1.unwish (ok.after sm) q1) λ_ _ z=>z.back sm.pers
 |false=>rw[if_neg Bool.false_ne_true]at q1;exact thn (hb.run pins s1 σ H1 σD Dn I1.unwish (ok.after sm) q1) λ_ _ z=>z.back sm.pers⟩
end
section
variable {P:Program}{w:World}{K:PySem.W.Frag}{mg:Str->Option Value}{base:Heap}{N:List Str}{qual:Str}{scope:Scope}{f:Addr}{cd:Value}{A:Around}{outer:List Env}{s:Shared}{H:Hp}{E:XK}
def zix(ex:EX)(x:Str):DTS:=λ_ _=>ex (x,[])
theorem zlq{ex:EX}{x:Str}{C:Addr}{np cpos pos:Pos}(hE:∀c od H',XE K H ex c od H'->E c od H')(hh:A.handled=none)(hg:Gl (vj (CXk P w) P w K mg base N qual scope f cd A outer s H E) x)(hm:mg x=some (.ref C))(hn:PySem.W.nsIn K mainGlobals x=some (some (.ref C)))
  (q:PySem.W.excIn K C [.type "ValueError",.type "Exception",.type "BaseException",.type "object"] "ValueError.__new__" = true) (hdb:(x ==("__debug__" : Str))=false:=by decide) :
  DSX (vj (CXk P w) P w K mg base N qual scope f cd A outer s H E) (.Raise (some (.Call (.Name x np) [] [] cpos)) none pos) (zix ex x) :=
 ⟨λpins s1 σ H1 σD Dn I ok qq=>zt4 I hh hg hm q (hE _ _ _ ⟨(x,[]),C,rfl,hn,ok.same,.inl ⟨rfl,rfl⟩,qq⟩) hdb⟩
end
section
variable {P:Program}{w:World}{K:PySem.W.Frag}{mg:Str->Option Value}{base:Heap}
theorem Fun.dokX{x qual:Str}{st:Stmt}{f:Addr}{fd:FuncData}{N ps:List Str}{k:Nat}{sp:zg5}(F:Fun K x qual st f fd)(S:yb N ps (zc st))(len:∀ws Q ex,sp ws Q ex->ws.length=ps.length)
  (hbody:∀(cdv:Value) (A:Around) (outer:List Env) (s:Shared) (H:Hp) (ws:List W) (Q:Ret->Prop) (ex:EX) (E:XK),Room k (A.deeper (envOfC qual (zc st) s.heap.objs.size f cdv))->sp ws Q ex->(∀c od H',XE K H ex c od H'->E c od H') ->
   ∃t,zg6 (vj (CXk P w) P w K mg base N qual (zc st) f cdv A outer s H E) (zh st) t/\t { nx:=λ_=>Q (.val .none),rt:=Q } (jg N ws)):FnOk P w K mg base (CXk P w) (k+1) f fd ps (kz K sp):=by
 obtain⟨oc,od,kV,doc,pm,an,cdv,ct,osl,rfl,lk,hcd⟩:=F.ex;refine zmw lk hcd S (λvs H Q E ⟨ws,QD,ex,r,q,_⟩=>by rw[<-r.length];exact len ws QD ex q) λA outer s H vs Q E hr ⟨ws,QD,ex,r,q,kk,ke⟩=>?_;obtain⟨t,ht,hq⟩:=hbody cdv A outer s H ws QD ex E hr q ke;refine⟨λD σ H1=>∃σD Dn,DOk K H H1 σD σ/\t Dn σD/\(∀σ' H' σD',DOk K H H' σD' σ'->Dn.nx σD'->D.nx σ' H')/\(∀v H' r,Same H H'->zax K H H' r v->Dn.rt r->D.rt v H')/\(∀σD',Dn.bk σD'->False)/\∀σD',Dn.ct σD'->False,?_,?_⟩
 ·intro pins s1 σ H1 D I ⟨σD,Dn,ok,q1,k1,k2,k3,k4⟩;refine thn (ht.run pins s1 σ H1 σD Dn I ok q1) λfl s' z=>?_
  cases fl with
  |next=>obtain⟨a,b,c,e1,e2,e3,e4⟩:=z;exact⟨a,b,e1,k1 a b c e2 e4⟩
  |brk=>obtain⟨a,b,c,e1,e2,e3,e4⟩:=z;exact(k3 _ e4).elim
  |cont=>obtain⟨a,b,c,e1,e2,e3,e4⟩:=z;exact(k4 _ e4).elim
  |ret u=>obtain⟨v,a,b,r,e1,e2,e3,e4,e5⟩:=z;exact⟨v,a,b,e1,e2,k2 v b r e3 e4 e5⟩
 ·exact⟨_,_,DOk.begin r N,hq,λσ' H' σD' ok' q'=>kk .non H' (.val .none) ok'.same .non q',λv H' r' sm rp qr=>kk v H' r' sm rp qr,λ_ z=>z.elim,λ_ z=>z.elim⟩
end
theorem zlr{K:PySem.W.Frag}{M:Model}{A:Around}{E:Value->Shared->Prop}{s:Shared}{C CK a:Addr}{oe:Obj}{Q:Bool->Shared->Prop}(X:K.In s.heap)(he:s.heap.get? a=some oe)(hc:oe.cls=.ref C)
  (e:PySem.W.kitCls K (.ref C) (.ref CK)=some true) (b:PySem.W.subIn K (.ref CK) (.type "BaseException")=some true) (q:Q true s):wpAny M A (excMatches (.ref a) (.ref CK)) Q E s:=by
 obtain⟨L1,L2,L3⟩:=PySem.W.kit_cls (M:=M) X e;have L4:=PySem.W.looks_subIn (M:=M) X b;have Lt:PySem.W.Looks M s.heap (typeOf (.ref a)) (.ref C):=hc ▸ (PySem.W.Looks.ld he).andThen .now;have Li:PySem.W.Looks M s.heap (isInstance (.ref CK) (.type "tuple")) false:=L1.andThen (PySem.W.Looks.of_pure tc_notTuple);have Le:PySem.W.Looks M s.heap (isExcClass (.ref CK)) true:=L2.andThen L4;unfold excMatches;refine wpAny_bind (Li.here ?_);refine wpAny_bind (wpAny_pure ?_);simp only[List.forIn_cons,List.forIn_nil];refine wpAny_bind (wpAny_bind (wpAny_bind (Le.here ?_)));refine wpAny_pure ?_;refine wpAny_pure ?_;refine wpAny_bind (Lt.here ?_);refine wpAny_bind (wpAny_bind (wpAny_bind (L3.here ?_)));exact wpAny_pure (wpAny_pure (wpAny_pure q))
structure zqq(K:PySem.W.Frag)(CK C:Addr):Prop where
 sub:PySem.W.kitCls K (.ref C) (.ref CK)=some true
 bas:PySem.W.subIn K (.ref CK) (.type "BaseException")=some true
theorem zqr{P:Program}{w:World}{H:Hp}{h:Heap}{a C:Addr}{od:Option Addr}(hy:Fly h a (.ref C) od):ObjOk P w H h a (zbh C od a):=by
 obtain⟨oe,vs,_,_,_,he,⟨h1,h2⟩,hd,_⟩:=hy;exact⟨⟨oe,he,h1,h2,vs,hd⟩,⟨oe,he⟩,λ_ _ ⟨o,e1,r⟩ k=>⟨o,k o e1,r⟩⟩
section
variable {X:Cx}{pins:List (Addr×Obj)}{σ:St}{H H₀:Hp}{s s':Shared}{E:XK}{e:Value}
theorem zt5{Q:Flow->Shared->Prop}{E':Value->Shared->Prop}{n kn:Str}{i:Nat}{b0:Stmt}{suite:List Stmt}{kp hpos:Pos}{CK:Addr}(I:Inv X pins σ H s)(hX:X.stack=X.env::X.outer)(hF:X.env.frame=some X.env.locals)(hx:CXk X.prog X.w X.stack H s E e s')
  (hg:Gl X kn) (hm:X.mg kn=some (.ref CK)) (hdb:(kn ==("__debug__" : Str))=false) (hN:X.N.Nodup) (hi:X.N[i]?=some n) (hl:X.env.scope.names.lookup n=some .local)
  (hE:∀C od H',E (.ref C) od H'->zqq X.K CK C/\∀a,H' a=none->∀s2,Inv (X.held (.ref a)) pins (σ.set i (some (.ref a))) (upd H' a (zbh C od a)) s2 ->
   wpAny (model X.prog X.w) (X.held (.ref a)).A (execs (b0::suite) X.env) (λf s3=>∃σ3 H3,Inv X pins σ3 H3 s3/\∀s4,Inv X pins (List.replicate X.N.length none) H3 s4->Q f s4) (λ_ _=>False) s2) :
  wpAny (model X.prog X.w) X.A (noteFrame e X.env) (λ_ s2=>wpAny (model X.prog X.w) X.A (setFlight e none) (λ_ s3=>wpAny (model X.prog X.w) X.A (handleBy e X.env [.ExceptHandler (some (.Name kn kp)) (some n) (b0::suite) hpos]) Q E' s3) E' s2) E' s':=by
 obtain⟨a,C,od,H',rfl,os,bare,un,hok,new,fr,fly,hE'⟩:=hx;obtain⟨XC,hsuite⟩:=hE C od H' hE';have J:Inv X pins σ H' s':=I.call' os un hok bare (λb hb=>nomatch hb);refine zrw (base:=X.base) (outer:=X.outer) (by rw[I.ok.frames,hX]) (by rw[<-hX];exact J.stack) hF (.inl fly) λh2 S F2=>?_;rw[<-hX]at S;have hok2:HOk X.prog X.w H' h2:=hok.sl S J.stkFree fr;have un2:=un.sl S (λb o hb _=>hb) new;have ne:∀b u,H' b=some u->b≠a:=λb u q z=>by rw[z,fr]at q;cases q
 have up:∀b u,H' b=some u->upd H' a (zbh C od a) b=some u:=λb u q=>by rw[zn (ne b u q)];exact q
 have un3:Un (frs X.stack) [] H (upd H' a (zbh C od a)) s.heap h2:=⟨un2.keep,un2.slot,λb o e n hx=>by
   rw[zn (λz=>by rw[z,new]at e;cases e)];exact un2.free b o e n hx,un2.there,λb xs e=>up _ _ (un2.tups b xs e),λb o u e=>up _ _ (un2.frzs b o u e),λb ps e=>by
   obtain⟨m,q⟩:=un2.tbls b ps e;exact⟨m,up _ _ q⟩⟩
 have hok3:HOk X.prog X.w (upd H' a (zbh C od a)) h2:=λb u q=>by
  by_cases z:b=a
  ·subst z;rw[zj]at q
   cases q;exact zqr F2
  ·rw[zn z]at q;exact(hok2 b u q).stay (λ_ _ _ q=>q) (λc q=>up _ _ q) (λc xs q=>up _ _ q) λc _ _ q=>up _ _ q
 have I2:Inv X pins σ (upd H' a (zbh C od a)) { s' with heap:=h2 }:=I.call' (s':={ s' with heap:=h2 }) os un3 hok3 bare (λb hb=>nomatch hb);have I3:=I2.held (.ref a);refine wpAny_handleBy_cons (codeAny_handlers_test (kb I3 hg hm ?_ hdb)) (by intro q;cases q);obtain⟨oe,vs,_,_,_,he,⟨hc,_⟩,_⟩:=id F2;refine zlr (s:={ s' with heap:=h2 }) I2.kIn he hc XC.sub XC.bas ?_;refine codeAny_handlers_suite_as (zvr (s:={ s' with heap:=h2 }) F2 λh3 same=>?_);have I4:=I3.kept (h':=h3) (t':=s'.toks) λb u q=>by rw[same];exact q
 refine vz (X:=X.held (.ref a)) I4 hN hi (.inl hl) (v:=.ref a) rfl (λs4 I5=>?_) (.inr hl);refine wpAny_mono (hsuite a fr s4 I5) (λf s5 ⟨σ5,H5,I6,k⟩=>?_) λ_ _ z=>False.elim z;obtain⟨m,hn,_⟩:=I6.loc;exact wpAny_nameGoes hl hn (by rw[I.ok.kind];rfl) λh6 m6 hn6 hs6=>k _ (I6.goes hn6 hs6 _)
end
end L2
namespace L2
open PySem PySem.Spec PyProof.Rows PySem.W
section
variable {prog:Program}{w:World}{A:Around}{E:Value->Shared->Prop}{s:Shared}{K:Frag}{x C:Addr}{ox:Obj}{od:Option Obj}
theorem zew{nameV:Value}{Q:Unit->Shared->Prop}{M:Model}(X:K.In s.heap)(I:InstAt s.heap x ox C od)(hb:mroIn K C (.type "BaseException")=some true)(q:Q () s):
  wpAny M A (checkBuiltinCall "BaseException.__getattribute__" ⟨[.ref x,nameV],[]⟩) Q E s:=by
 have hk:builtinKind "BaseException.__getattribute__" = some .slot:=by decide +kernel
 have hsplit:splitId "BaseException.__getattribute__" = some ("BaseException", "__getattribute__"):=by decide +kernel
 have L1:Looks M s.heap (isInstance (.ref x) (.type "BaseException")) true:=I.type.andThen (looks_mroIn X hb);have ha:=PySem.F.args_bexc_ga (.ref x) nameV;simp only[checkBuiltinCall,hk,hsplit];refine wpAny_bind (L1.here ?_)
 repeat (any_goals (first|assumption|wp_step))
theorem zfr{tk:Tok}{R:Result->Shared->Prop}(X:K.In s.heap)(I:InstAt s.heap x ox C od)(hb:mroIn K C (.type "BaseException")=some true)
  (hf:findObj K C od "__class__" = some (.bind (.builtin "getset_descriptor.__get__") (.builtin "object.__class__"))) (hm:mroIn K C (.type "object")=some true) (q:R (.ok (.ret (.ref C))) s) :
  codeAny (model prog w) A (.call (.builtin "BaseException.__getattribute__") ⟨[.ref x,.str "__class__" tk],[]⟩) R s:=by
 refine codeAny_call_builtin PySem.F.attr_ValueError.ga.plain PySem.F.entry_bexc_ga (zew X I hb ?_);have L0:=I.type (M:=model prog w);have L1:=looks_find (M:=model prog w) X I hf;obtain⟨hh,g,dr,t,os⟩:=s;unfold Builtin.«object.__getattribute__»
 repeat (any_goals (first|assumption|exact L0.at ‹_›|wp_step))
 refine wpAny_loadPart_at I.at_ (wpAny_pure ?_);rw[I.cls];refine wpAny_bind (L1.at ?_);unfold Builtin.ObjectAttr.bindTo
 repeat (any_goals (first|assumption|wp_step))
 exact class_get X I hm (wpAny_pure q)
theorem zls{Q:Option Value->Shared->Prop}(X:K.In s.heap)(I:InstAt s.heap x ox C od)(hga:findIn K (.ref C) "__getattribute__" = some (some (.builtin "BaseException.__getattribute__")))(hhk:findIn K (.ref C) "__getattr__" = some none)(hb:mroIn K C (.type "BaseException")=some true)
  (hf:findObj K C od "__class__" = some (.bind (.builtin "getset_descriptor.__get__") (.builtin "object.__class__"))) (hm:mroIn K C (.type "object")=some true) (q:Q (some (.ref C)) { s with toks:=s.toks+1 }) :
  wpAny (model prog w) A (getAttr? (.ref x) "__class__") Q E s:=by
 have L0:=I.type (M:=model prog w);have L1:=looks_findIn (M:=model prog w) X hga;have L2:=looks_findIn (M:=model prog w) X hhk;obtain⟨hh,g,d,t,os⟩:=s;unfold getAttr? getAttrBy? getAttrBy;refine wpAny_bind (wpAny_mkText (wpAny_bind (wpAny_attempt (wpAny_holding (wpAny_bind (L0.at (wpAny_bind (L1.at ?_))))))));dsimp only;rw[if_neg (by rw[show(Value.builtin "BaseException.__getattribute__" == Value.builtin "object.__getattribute__")=false by decide +kernel,Bool.and_false];decide)];unfold getAttrByItsOwn hookBefore;rw[if_pos (by rfl)];refine wpAny_bind (L2.at (wpAny_bind (wpAny_attempt (wpAny_holding ?_))));unfold callGetattribute;rw[if_neg (by decide +kernel)];unfold boundAndCalled;refine wpAny_bind (wpAny_of_eq (PySem.F.attr_ValueError.ga.bind (.ref x)) ?_);refine wpAny_call (zfr (s:=⟨hh,g,d,t+1,os⟩) X I hb hf hm ?_);exact handed_on rfl (wpAny_pure q)
end
structure XIs(K:Frag)(C:Addr):Prop where
 ga:findIn K (.ref C) "__getattribute__" = some (some (.builtin "BaseException.__getattribute__"))
 hk:findIn K (.ref C) "__getattr__" = some none
 bas:mroIn K C (.type "BaseException")=some true
 dct:hasDictIn K C=true
 fnd:findIn K (.ref C) "__class__" = some (some (.builtin "object.__class__"))
 spc:specialIn K (.builtin "object.__class__") "__get__" = some (some (.builtin "getset_descriptor.__get__"))
 tks:takesIn K (.builtin "object.__class__")=some true
 mro:mroIn K C (.type "object")=some true
theorem jj{K:Frag}{C:Addr}(h:hasDictIn K C=true):∃cd,clsIn K C=some cd/\∃c d sl,K.lookup C=some ⟨c,d,.cls cd,sl⟩:=by
 unfold hasDictIn at h
 cases e:clsIn K C with
 |none=>rw[e]at h;cases h
 |some cd=>
  refine⟨cd,rfl,?_⟩;unfold clsIn at e
  split at e
  ·next ho=>cases e;exact⟨_,_,_,ho⟩
  ·cases e
theorem zg8{K:Frag}{a C:Addr}(Z:XIs K C):KitX K (.ref a) (.ref C) (λh=>∃ox od,InstAt h a ox C od) where
 ty:=λM h _ ⟨ox,od,I⟩=>I.type
 it:=λM h X _=>by
  obtain⟨cd,_,c,d,sl,ho⟩:=jj Z.dct;exact(Looks.ld (X _ _ ho)).andThen .now
 ne:=λh tp dd its n sl X htp=>by
  obtain⟨cd,_,c,d,sl',ho⟩:=jj Z.dct
  cases q:(Value.ref C == Value.ref tp) with
  |false=>rfl
  |true=>
   cases beq_iff_eq.mp q;have z:=(X _ _ ho).symm.trans htp
   cases z
 ca:=λ{prog w A E Q s} X ⟨ox,od,I⟩ k=>by
  obtain⟨cd,hc,_⟩:=jj Z.dct;have hf:findObj K C od "__class__" = some (.bind (.builtin "getset_descriptor.__get__") (.builtin "object.__class__")):=by
   unfold findObj;rw[hc,Option.bind_some,Z.fnd,Option.bind_some];simp[Z.spc,Z.tks]
  exact zls X I Z.ga Z.hk Z.bas hf Z.mro k
section
variable {X:Cx}{pins:List (Addr×Obj)}{σ:St}{H:Hp}{s:Shared}
def XDc(H:Hp)(od:Option Addr):Prop:=od=none\/∃d fs,od=some d/\H d=some (.xd fs)
theorem XDc.of{K:Frag}{x:Str×List (Str×Int)}{od:Option Addr}(h:(x.2 = []/\od=none)\/∃d,od=some d/\H d=some (.xd (x.2.map λp=>(p.1,V.int p.2)))):XDc H od:=by
 rcases h with h |⟨d,e,h⟩
 ·exact .inl h.2
 ·exact .inr ⟨d,_,e,h⟩
theorem zg9(I:Inv X pins σ H s){a C:Addr}{od:Option Addr}(h:H a=some (zbh C od a))(hd:XDc H od):∃ox oo,InstAt s.heap a ox C oo:=by
 obtain⟨⟨oe,he,hc,hdi,vs,hf⟩,_,_⟩:=I.hok _ _ h;have hno:notCls oe=true:=by unfold notCls;rw[hf]
 rcases hd with rfl |⟨d,fs,rfl,hx⟩
 ·exact⟨oe,none,he,hc,hno,by rw[hdi];trivial⟩
 ·obtain⟨o,ho⟩:=(I.hok _ _ hx).ex;exact⟨oe,some o,he,hc,hno,by rw[hdi];exact ho⟩
def zlt(i:Nat)(tab:Str->Option Bool):DTE:=λσ Q=>match σ[i]? with
 |some (some (.exc x))=>(match tab x.1 with
  |some b=>Q (.bool b)
  |none=>False)
 |_=>False
variable {e:Expr}{pos p:Pos}
theorem w5(i:Nat){x:Str}{px:Pos}{tab:Str->Option Bool}{c:Value}{cv:V}(rc:∀u,RelV cv u->u=c)(hk:∀nm b,tab nm=some b->∀C,nsIn X.K mainGlobals nm=some (some (.ref C))->XIs X.K C/\kitOne X.K (.ref C) c=some b)
  (hg:Gl X "isinstance") (hm:X.mg "isinstance" = none) (hv:bootBuiltins "isinstance" = some (.builtin "isinstance")) (h2:PE X e (tC cv)) (hN:X.N[i]?=some x:=by rfl) (hvs:Vis X.env.scope x:=by first|exact Or.inl rfl|exact Or.inr (Or.inl rfl)|exact Or.inr (Or.inr rfl))
  (hd:(x ==("__debug__" : Str))=false:=by decide) (hcd:(x ==("__classdict__" : Str))=false:=by decide)
  (he:starEach [.Name x px,e] X.env=(false,eval (.Name x px) X.env)::starEach [e] X.env:=by rfl) (he2:starEach [e] X.env=(false,eval e X.env)::starEach [] X.env:=by rfl) (hpl:(backTo pos (starEach [e] X.env)).any (·.1)=false:=by rfl) :
  DE X (.Call (.Name "isinstance" p) [.Name x px,e] [] pos) (zlt i tab):=by
 have hc:w6 X (.builtin "isinstance") (λvs H Q=>∃nm b a C od,vs = [.ref a,cv]/\tab nm=some b/\nsIn X.K mainGlobals nm=some (some (.ref C))/\H a=some (zbh C od a)/\XDc H od/\Q (.bl b) H):=λpins s σ H xs us Q I rv ⟨nm,b,a,C,od,e,ht,hn,ha,hd,q⟩=>by
  subst e;obtain⟨u,w,rfl,r1,r2⟩:=rv.two
  cases r1
  cases rc _ r2;obtain⟨Z,ek⟩:=hk nm b ht C hn;exact kia_one (zg8 Z) I.kIn (zg9 I ha hd) ek (λz=>nomatch z) λtk=>⟨.bl b,H,I.tok tk,rfl,q⟩
 refine DE.of (qe hc hg hm hv (yo (wu (i:=i) hN hvs hd hcd) (yo h2 wb he2) he) (by decide) (by decide) he hpl) λσ H H₀ σD QD ok q=>?_;unfold zlt at q
 split at q
 ·next x' e'=>
  obtain⟨v,e1,a,C,od,rfl,hn,ha,hf⟩:=ok.exc e'
  split at q
  ·next b ht=>exact⟨.ref a,e1,x'.1,b,a,C,od,rfl,ht,hn,ha,XDc.of (K:=X.K) hf,.bool b,Same.refl _,.bl,q⟩
  ·exact q.elim
 ·exact q.elim
theorem zkb(i:Nat){x:Str}{px tp:Pos}{k:Nat}{es:List Expr}{tab:Str->Option Bool}{cs:List Value}{cvs:List V}(rc:∀us,Vals cvs us->us=cs)(hk:∀nm b,tab nm=some b->∀C,nsIn X.K mainGlobals nm=some (some (.ref C))->XIs X.K C/\kitAny X.K (.ref C) cs=some b)
  (hg:Gl X "isinstance") (hm:X.mg "isinstance" = none) (hv:bootBuiltins "isinstance" = some (.builtin "isinstance")) (h2:PA X es (λ_ H Q=>Q cvs H)) (hz:cvs.length<=sizeLine) (hN:X.N[i]?=some x:=by rfl) (hvs:Vis X.env.scope x:=by first|exact Or.inl rfl|exact Or.inr (Or.inl rfl)|exact Or.inr (Or.inr rfl))
  (hd:(x ==("__debug__" : Str))=false:=by decide) (hcd:(x ==("__classdict__" : Str))=false:=by decide)
  (he:starEach [.Name x px,.Tuple es k tp] X.env=(false,eval (.Name x px) X.env)::starEach [.Tuple es k tp] X.env:=by rfl) (he2:starEach [.Tuple es k tp] X.env=(false,eval (.Tuple es k tp) X.env)::starEach [] X.env:=by rfl) (hpl:(backTo pos (starEach [.Tuple es k tp] X.env)).any (·.1)=false:=by rfl) :
  DE X (.Call (.Name "isinstance" p) [.Name x px,.Tuple es k tp] [] pos) (zlt i tab):=by
 have hc:w6 X (.builtin "isinstance") (λvs H Q=>∃nm b a C od q,vs = [.ref a,.ref q]/\tab nm=some b/\nsIn X.K mainGlobals nm=some (some (.ref C))/\H a=some (zbh C od a)/\XDc H od/\SqT X.K H q cvs/\Q (.bl b) H):=λpins s σ H xs us Q I rv ⟨nm,b,a,C,od,tq,e,ht,hn,ha,hd,hq,q⟩=>by
  subst e;obtain⟨u,w,rfl,r1,r2⟩:=rv.two
  cases r1
  cases r2;obtain⟨Z,ek⟩:=hk nm b ht C hn;obtain⟨its,rr,⟨⟨c',dd,dt,sl⟩,h1,h2,⟨n,h3⟩,_⟩,_⟩:=I.tupleD hq
  cases rc _ rr;simp only at h2 h3;subst h2 h3;exact kia_tup (zg8 Z) I.kIn (zg9 I ha hd) h1 ek (λz=>nomatch z) λtk=>⟨.bl b,H,I.tok tk,rfl,q⟩
 refine DE.of (qe hc hg hm hv (yo (wu (i:=i) hN hvs hd hcd) (yo (zmu h2) wb he2) he) (by decide) (by decide) he hpl) λσ H H₀ σD QD ok q=>?_;unfold zlt at q
 split at q
 ·next x' e'=>
  obtain⟨v,e1,a,C,od,rfl,hn,ha,hf⟩:=ok.exc e'
  split at q
  ·next b ht=>
   refine⟨.ref a,e1,hz,λtq hq=>?_⟩;have sm:=zy hq (.tup cvs);have ok2:=ok.after sm;obtain⟨v2,e2,a2,C2,od2,rfl,hn2,ha2,hf2⟩:=ok2.exc e';rw[e1]at e2
   cases e2;exact⟨x'.1,b,a,C2,od2,tq,rfl,ht,hn2,ha2,XDc.of (K:=X.K) hf2,SqT.of zj,.bool b,sm,.bl,q⟩
  ·exact q.elim
 ·exact q.elim
theorem zha:PA X [] (λ_ H Q=>Q [] H):=wb
theorem vh{es:List Expr}{v:V}{vs:List V}(h:PE X e (tC v))(t:PA X es (λ_ H Q=>Q vs H))(hs:starEach (e::es) X.env=(false,eval e X.env)::starEach es X.env:=by rfl):PA X (e::es) (λ_ H Q=>Q (v::vs) H):=yo h t hs
def zfs:DTE:=λ_ _=>False
theorem j3:DE X e zfs:=⟨λ_ _ _ _ _ _ _ _ _ h=>h.elim⟩
theorem zex{k:Nat}(hr:Room0 k X.A):OpD X (compareOp .Eq) gEq:=⟨λpins s σ H x y v u a b Q I rx ry ra rb q=>by
 have G:=(zrp (X:=X) hr.units).run pins s σ H x y v u a b Q I rx ry ra rb;have S:=(zjs (X:=X) (f:=λ_ _=>true) false .Eq zmr).run pins s σ H x y v u a b Q I rx ry ra rb
 cases a <;> cases b <;> first|exact S q|exact G q⟩
theorem zry{k:Nat}(hr:Room0 k X.A):OpD X (compareOp .NotEq) gNe:=⟨λpins s σ H x y v u a b Q I rx ry ra rb q=>by
 have G:=(zrq (X:=X) hr.units).run pins s σ H x y v u a b Q I rx ry ra rb;have S:=(zjs (X:=X) (f:=λ_ _=>true) true .NotEq zrj).run pins s σ H x y v u a b Q I rx ry ra rb
 cases a <;> cases b <;> first|exact S q|exact G q⟩
def zqs(k:Bool):Value->Bool
 |.bool i=>i == k
 |_=>false
theorem zaq:∀{bs:List Bool}{its:List Value},Vals (bs.map V.bl) its->its=bs.map Value.bool
 |[],_,.nil=>rfl
 |b::bs,_,.cons h t=>by
  have h:_=Value.bool b:=h;rw[h,zaq t];rfl
theorem zlu:MtR X "list.count" (λx vs H Q=>∃(l:Addr) (bs:List Bool) (k:Bool),x=.ref l/\vs = [.bl k]/\Rd H l (.lst (bs.map V.bl))/\Q (.int ((bs.count k:Nat):Int)) H):=by
 intro pins s σ H x vs v us Q I rx rv h;obtain⟨l,bs,k,rfl,rfl,hR,q⟩:=h
 cases rx;obtain⟨u,rfl,ru⟩:=rv.one
 cases ru;obtain⟨z,its,n,r,e⟩:=hR.ok I.hok
 cases zaq r;refine call_meets F.slot_list_count ⟨_,e,rfl⟩ F.entry_list_count (F.args_list_count_2 _ _) (PySem.SeqAt.list_countAt l (bs.map Value.bool).toArray n none #[] (.bool k) (zqs k)) ⟨e,λy hy=>?_,?_⟩
 ·obtain⟨b,_,rfl⟩:=List.mem_map.mp (List.mem_toArray.mp hy);exact PySem.SeqAt.EqAt.bool_bool b k
 ·have ec:(bs.map Value.bool).countP (zqs k)=bs.count k:=by
   rw[List.countP_map];rfl
  rw[List.toList_toArray,ec];exact⟨.int ((bs.count k:Nat):Int),H,I.tok _,⟨_,rfl⟩,q⟩
theorem zlv:MtR X "list.index" (λx vs H Q=>∃(l:Addr) (bs:List Bool) (k:Bool) (j:Nat),x=.ref l/\vs = [.bl k]/\Rd H l (.lst (bs.map V.bl))/\bs.findIdx? (· == k)=some j/\Q (.int (j:Int)) H):=by
 intro pins s σ H x vs v us Q I rx rv h;obtain⟨l,bs,k,j,rfl,rfl,hR,hj,q⟩:=h
 cases rx;obtain⟨u,rfl,ru⟩:=rv.one
 cases ru;obtain⟨z,its,n,r,e⟩:=hR.ok I.hok
 cases zaq r;obtain⟨hlt,hit,hno⟩:=List.findIdx?_eq_some_iff_getElem.mp hj;rw[List.length_map]at z;have zl:=sizeLine_eq;refine call_meets F.slot_list_index ⟨_,e,rfl⟩ F.entry_list_index (F.args_list_index_2 _ _) (PySem.SeqAt.list_indexAt l (bs.map Value.bool).toArray n none #[] (.bool k) (zqs k) j (by simpa using hlt) (by omega) ?_ λm hm hmj=>?_) ⟨e,λy hy=>?_,?_⟩
 ·simp only[List.getElem_toArray,List.getElem_map];exact hit
 ·simp only[List.getElem_toArray,List.getElem_map];have:=hno m hmj;simpa[zqs]using this
 ·obtain⟨b,_,rfl⟩:=List.mem_map.mp (List.mem_toArray.mp hy);exact PySem.SeqAt.EqAt.bool_bool b k
 ·exact⟨.int (j:Int),H,I.tok _,⟨_,rfl⟩,q⟩
variable {o:Expr}{to te:DTE}{apos cpos:Pos}
def zom(to te:DTE):DTE:=λσ Q=>to σ λd=>match d with
 |.list xs=>te σ λk=>(match k with
  |.bool c=>(match ve xs with
   |some bs=>Q (.int ((bs.count c:Nat):Int))
   |none=>False)
  |_=>False)
 |_=>False
def zon(to te:DTE):DTE:=λσ Q=>to σ λd=>match d with
 |.list xs=>te σ λk=>(match k with
  |.bool c=>(match ve xs with
   |some bs=>(match bs.findIdx? (· == c) with
    |some j=>Q (.int (j:Nat))
    |none=>False)
   |none=>False)
  |_=>False)
 |_=>False
theorem zey(ho:DV X o to)(ha:DE X e te)(hbase:attributeBase o "count" X.env (eval o X.env)=eval o X.env:=by rfl)
  (hfew:((backTo cpos (starEach [e] X.env)).all (λx=>!x.1) && (backToKw cpos (keywordEach [] X.env)).all (λx=>x.1.isSome) && decide (([e]:List Expr).length+([]:List Keyword).length+(if ([]:List Keyword).isEmpty then 0 else 1)<30))=true:=by rfl)
  (hline:(apos.endLine == cpos.line)=true:=by rfl) (hs:starEach [e] X.env=(false,eval e X.env)::starEach [] X.env:=by rfl) (hplain:(backTo cpos (starEach [] X.env)).any (·.1)=false:=by rfl) :
  DE X (.Call (.Attribute o "count" apos) [e] [] cpos) (zom to te) :=
 DE.of (zcj F.plainAttrs_list F.slot_list_count F.type_list_count zlu ho.pe (yo ha.pe wb hs) hbase hfew hline hs hplain) λσ H H₀ σD QD ok q=>⟨H₀,σD,_,ok,q,λv H1 d s1 r1 q1=>by
  cases d with
  |list xs=>
   obtain⟨a,vs,rfl,hR,rp⟩:=r1.list;refine⟨.inl ⟨rfl,vs,.inl hR⟩,H₀,σD,_,ok.after s1,q1,λv2 H2 d2 s2 r2 q2=>?_⟩
   cases d2 with
   |bool c=>
    cases r2;dsimp only at q2
    split at q2
    ·next bs hb=>
     have e:=kj rp hb;subst e;refine⟨a,bs,c,rfl,rfl,s2.rd hR,.int _,s1.trans s2,.int,q2⟩
    ·exact q2.elim
   |_=>exact q2.elim
  |_=>exact q1.elim⟩
theorem zez(ho:DV X o to)(ha:DE X e te)(hbase:attributeBase o "index" X.env (eval o X.env)=eval o X.env:=by rfl)
  (hfew:((backTo cpos (starEach [e] X.env)).all (λx=>!x.1) && (backToKw cpos (keywordEach [] X.env)).all (λx=>x.1.isSome) && decide (([e]:List Expr).length+([]:List Keyword).length+(if ([]:List Keyword).isEmpty then 0 else 1)<30))=true:=by rfl)
  (hline:(apos.endLine == cpos.line)=true:=by rfl) (hs:starEach [e] X.env=(false,eval e X.env)::starEach [] X.env:=by rfl) (hplain:(backTo cpos (starEach [] X.env)).any (·.1)=false:=by rfl) :
  DE X (.Call (.Attribute o "index" apos) [e] [] cpos) (zon to te) :=
 DE.of (zcj F.plainAttrs_list F.slot_list_index F.type_list_index zlv ho.pe (yo ha.pe wb hs) hbase hfew hline hs hplain) λσ H H₀ σD QD ok q=>⟨H₀,σD,_,ok,q,λv H1 d s1 r1 q1=>by
  cases d with
  |list xs=>
   obtain⟨a,vs,rfl,hR,rp⟩:=r1.list;refine⟨.inl ⟨rfl,vs,.inl hR⟩,H₀,σD,_,ok.after s1,q1,λv2 H2 d2 s2 r2 q2=>?_⟩
   cases d2 with
   |bool c=>
    cases r2;dsimp only at q2
    split at q2
    ·next bs hb=>
     split at q2
     ·next j hj=>
      have e:=kj rp hb;subst e;refine⟨a,bs,c,j,rfl,rfl,s2.rd hR,hj,.int _,s1.trans s2,.int,q2⟩
     ·exact q2.elim
    ·exact q2.elim
   |_=>exact q2.elim
  |_=>exact q1.elim⟩
end
end L2
namespace L2
open PySem PySem.Spec PyProof.Rows PySem.W
def qi(L:List Str)(t:Str):Str->Option Bool:=λnm=>if L.contains nm then some (nm == t) else none
def zhb(L:List Str)(b:Bool):Str->Option Bool:=λnm=>if L.contains nm then some b else none
section
variable {K:Frag}{C D:Addr}{t:Value}{b:Bool}
theorem xh(hd:hasDictIn K D=true)(ht:typeIn K (.ref D)=some (.type "type"))(hs:subIn K t (.ref D)=some b):kitCls K t (.ref D)=some b:=by
 obtain⟨cd,hc,_⟩:=jj hd;show(if ((clsIn K D).isSome && typeIn K (.ref D) == some (.type "type"))=true then subIn K t (.ref D) else none)=some b;rw[hc,ht,if_pos (by rfl)];exact hs
theorem xw(h:C≠D)(k:kitCls K (.ref C) (.ref D)=some b):kitOne K (.ref C) (.ref D)=some b:=by
 unfold kitOne;rw[if_neg (λq=>h (Value.ref.inj (beq_iff_eq.mp q)))];exact k
theorem zby:kitOne K (.ref C) (.ref C)=some true:=by
 unfold kitOne;rw[if_pos (by exact beq_self_eq_true _)]
theorem wr{T:String}(hm:kitMeta T=true)(hs:subIn K (.ref C) (.type T)=some b):kitOne K (.ref C) (.type T)=some b:=by
 unfold kitOne;rw[if_neg (λq=>by cases beq_iff_eq.mp q)];show(if kitMeta T=true then subIn K (.ref C) (.type T) else none)=some b;rw[if_pos hm];exact hs
theorem vi{c:Value}{cs:List Value}(h:kitOne K t c=some false)(r:kitAny K t cs=some b):kitAny K t (c::cs)=some b:=by
 unfold kitAny;rw[h];exact r
theorem zc1:kitAny K t []=some false:=rfl
theorem vv{P:Str->Prop}:∀r∈([]:List Str),P r:=λ_ h=>nomatch h
theorem yv{P:Str->Prop}{a:Str}{l:List Str}(h:P a)(t:∀r∈l,P r):∀r∈a::l,P r:=λr hr=>by
 rcases List.mem_cons.mp hr with rfl|hr
 ·exact h
 ·exact t r hr
theorem kl{c:Value->Prop}{L:List Str}{tab:Str->Option Bool}{F:Addr->Bool->Prop}(hL:∀nm b,tab nm=some b->nm∈L)
  (h:∀r∈L,∃C,nsIn K mainGlobals r=some (some (.ref C))/\∀b,tab r=some b->F C b):∀nm b,tab nm=some b->∀C,nsIn K mainGlobals nm=some (some (.ref C))->F C b:=λnm b e C hC=>by
 obtain⟨C',h1,h2⟩:=h nm (hL nm b e);rw[h1]at hC
 cases hC;exact h2 b e
theorem km{L:List Str}{t:Str}:∀nm b,qi L t nm=some b->nm∈L:=λnm b e=>by
 unfold qi at e
 split at e
 ·next h=>exact List.contains_iff_mem.mp h
 ·cases e
theorem zkc{L:List Str}{v:Bool}:∀nm b,zhb L v nm=some b->nm∈L:=λnm b e=>by
 unfold zhb at e
 split at e
 ·next h=>exact List.contains_iff_mem.mp h
 ·cases e
theorem wt{tab:Str->Option Bool}{r:Str}{v:Bool}{F:Addr->Bool->Prop}(hC:nsIn K mainGlobals r=some (some (.ref C)))(ht:tab r=some v)(f:F C v):∃C,nsIn K mainGlobals r=some (some (.ref C))/\∀b,tab r=some b->F C b :=
 ⟨C,hC,λb e=>by rw[ht]at e;cases e;exact f⟩
theorem zkd{r:Str}{F:Addr->Prop}(hC:nsIn K mainGlobals r=some (some (.ref C)))(f:F C):∀D,nsIn K mainGlobals r=some (some (.ref D))->F D:=λD e=>by rw[hC]at e;cases e;exact f
theorem zc2:∀(ps:List (V×Value)),(∀p∈ps,∀u,RelV p.1 u->u=p.2)->∀us,Vals (ps.map (·.1)) us->us=ps.map (·.2)
 |[],_,_,.nil=>rfl
 |p::ps,h,_,.cons r t=>by rw[h p List.mem_cons_self _ r,zc2 ps (λq hq=>h q (List.mem_cons_of_mem _ hq)) _ t];rfl
end
theorem wa{t R:DTS}{Dn:qc}{σ:DSt}(P:DSt->Prop)(h:∀N:DSt->Prop,(∀σ',P σ'->N σ')->t { Dn with nx:=N } σ)(k:∀σ',P σ'->R Dn σ'):zns t R Dn σ:=h _ k
end L2
namespace L2
open PySem PySem.Spec PyProof.Rows
section
variable {K:PySem.W.Frag}{H₀ H:Hp}{σD:DSt}{σ:St}
theorem Slots.focus{fp:List Addr}(h:Slots K H₀ H σD σ fp){i:Nat}{o:O}(e:σD[i]?=some (some (.own o))):
  ∃v f g g',σ[i]?=some (some v)/\RepO K H o v f/\fp=g++(f++g')/\∀H' o' f',Pers H H'->(∀a,a∈g++g'->∀u,H a=some u->H' a=some u)->RepO K H' o' v f'->Slots K H₀ H' (clr (σD.set i (some (.own o')))) σ (g++(f'++g')):=by
 induction h generalizing i with
 |nil=>simp at e
 |none t ih=>
  cases i with
  |zero=>simp at e
  |succ i=>obtain⟨v,f,g,g',h1,h2,h3,h4⟩:=ih (i:=i) (by simpa using e);exact⟨v,f,g,g',by simpa using h1,h2,h3,λH' o' f' p k r=>.none (h4 H' o' f' p k r)⟩
 |val q t ih=>
  cases i with
  |zero=>simp at e
  |succ i=>obtain⟨v,f,g,g',h1,h2,h3,h4⟩:=ih (i:=i) (by simpa using e);exact⟨v,f,g,g',by simpa using h1,h2,h3,λH' o' f' p k r=>.val (q.mono p) (h4 H' o' f' p k r)⟩
 |vw q t ih=>
  cases i with
  |zero=>simp at e
  |succ i=>obtain⟨v,f,g,g',h1,h2,h3,h4⟩:=ih (i:=i) (by simpa using e);exact⟨v,f,g,g',by simpa using h1,h2,h3,λH' o' f' p k r=>.vw q (h4 H' o' f' p k r)⟩
 |vd q t ih=>
  cases i with
  |zero=>simp at e
  |succ i=>obtain⟨v,f,g,g',h1,h2,h3,h4⟩:=ih (i:=i) (by simpa using e);exact⟨v,f,g,g',by simpa using h1,h2,h3,λH' o' f' p k r=>.vd q (h4 H' o' f' p k r)⟩
 |exc q t ih=>
  cases i with
  |zero=>simp at e
  |succ i=>obtain⟨v,f,g,g',h1,h2,h3,h4⟩:=ih (i:=i) (by simpa using e);exact⟨v,f,g,g',by simpa using h1,h2,h3,λH' o' f' p k r=>.exc q (h4 H' o' f' p k r)⟩
 |scr q t ih=>
  cases i with
  |zero=>simp at e
  |succ i=>obtain⟨v,f,g,g',h1,h2,h3,h4⟩:=ih (i:=i) (by simpa using e);exact⟨v,f,g,g',by simpa using h1,h2,h3,λH' o' f' p k r=>.scr q (h4 H' o' f' p k r)⟩
 |pen q t ih=>
  cases i with
  |zero=>simp at e
  |succ i=>obtain⟨v,f,g,g',h1,h2,h3,h4⟩:=ih (i:=i) (by simpa using e);exact⟨v,f,g,g',by simpa using h1,h2,h3,λH' o' f' p k r=>.pen (p _ _ q rfl) (h4 H' o' f' p k r)⟩
 |tmp q t ih=>
  cases i with
  |zero=>simp at e
  |succ i=>obtain⟨v,f,g,g',h1,h2,h3,h4⟩:=ih (i:=i) (by simpa using e);exact⟨v,f,g,g',by simpa using h1,h2,h3,λH' o' f' p k r=>.none (h4 H' o' f' p k r)⟩
 |@own o0 v0 f0 ws wvs fp' q t ih=>
  cases i with
  |zero=>
   simp at e;subst e;refine⟨v0,f0,[],fp',rfl,q,rfl,λH' o' f' p k r=>?_⟩;rw[List.nil_append];exact .own r (t.keepC p λa ha u hu=>k a ha u hu)
  |succ i=>
   obtain⟨v,f,g,g',h1,h2,h3,h4⟩:=ih (i:=i) (by simpa using e);refine⟨v,f,f0++g,g',by simpa using h1,h2,by rw[h3,List.append_assoc],λH' o' f' p k r=>?_⟩;rw[List.append_assoc];refine .own (q.keep p λa ha u hu=>k a ?_ u hu) (h4 H' o' f' p (λa ha u hu=>k a ?_ u hu) r)
   ·exact List.mem_append_left _ (List.mem_append_left _ ha)
   ·rcases List.mem_append.mp ha with z|z
    ·exact List.mem_append_left _ (List.mem_append_right _ z)
    ·exact List.mem_append_right _ z
theorem DOk.focus(h:DOk K H₀ H σD σ){i:Nat}{o:O}(e:σD[i]?=some (some (.own o))):
  ∃v f,σ[i]?=some (some v)/\RepO K H o v f/\f.Nodup/\(∀a∈f,H₀ a=none)/\∀H' o' f',(∀a u,a∉f->H a=some u->H' a=some u)->f'.Nodup->(∀a∈f',a∈f\/H a=none)->RepO K H' o' v f' ->
   DOk K H₀ H' (clr (σD.set i (some (.own o')))) σ/\Pers H H':=by
 obtain⟨s,fp,sl,nd,fr⟩:=h;obtain⟨v,f,g,g',h1,h2,rfl,h4⟩:=sl.focus e;have nd':=nd;rw[List.nodup_append,List.nodup_append]at nd';obtain⟨ng,⟨nf,ng',dfg'⟩,dg⟩:=nd';have inf:∀a∈f,a∈g++(f++g'):=λa ha=>List.mem_append_right _ (List.mem_append_left _ ha);refine⟨v,f,h1,h2,nf,λa ha=>fr a (inf a ha),λH' o' f' k nf' hf' r=>?_⟩;have pr:Pers H H':=λa u ha hp=>k a u (λz=>by obtain⟨w,e1,e2⟩:=h2.live a z;rw[ha]at e1;cases e1;rw[e2]at hp;cases hp) ha;have off:∀a,a∈g++g'->a∉f:=λa ha z=>by
  rcases List.mem_append.mp ha with y|y
  ·exact dg a y a (List.mem_append_left _ z) rfl
  ·exact dfg' a z a y rfl
 have lv:∀a,a∈g++g'->H a≠none:=λa ha z=>by
  obtain⟨w,e1,_⟩:=sl.live a (by rcases List.mem_append.mp ha with y|y;exact List.mem_append_left _ y;exact List.mem_append_right _ (List.mem_append_right _ y));rw[z]at e1
  cases e1
 refine⟨⟨λa u ha=>k a u (λz=>by rw[fr a (inf a z)]at ha;cases ha) (s a u ha),_,h4 H' o' f' pr (λa ha u hu=>k a u (off a ha) hu) r,?_,λa ha=>?_⟩,pr⟩
 ·have nq:∀x∈g++g',∀y∈f',x≠y:=λx hx y hy z=>by
   subst z;rcases hf' x hy with q|q
   ·exact off x hx q
   ·exact lv x hx q
  rw[List.nodup_append,List.nodup_append];refine⟨ng,⟨nf',ng',λx hx y hy z=>nq y (List.mem_append_right _ hy) x hx z.symm⟩,λx hx y hy=>?_⟩;rcases List.mem_append.mp hy with q|q
  ·exact nq x (List.mem_append_left _ hx) y q
  ·exact dg x hx y (List.mem_append_right _ q)
 ·rcases List.mem_append.mp ha with q|q
  ·exact fr a (List.mem_append_left _ q)
  ·rcases List.mem_append.mp q with q|q
   ·rcases hf' a q with z|z
    ·exact fr a (inf a z)
    ·cases y:H₀ a with
     |none=>rfl
     |some u=>rw[s a u y]at z;cases z
   ·exact fr a (List.mem_append_right _ (List.mem_append_right _ q))
def O.bare:O->O
 |.anc _ o=>o.bare
 |o=>o
def O.with:O->O->O
 |.anc a o,o'=>.anc a (o.with o')
 |_,o'=>o'
theorem RepO.bare{o:O}{v:V}{f:List Addr}(h:RepO K H o v f):RepO K H o.bare v f:=by
 induction o with
 |anc a o ih=>exact ih h.2
 |_=>exact h
theorem RepO.with{H':Hp}{o o':O}{v:V}{f f':List Addr}(h:RepO K H o v f)(h':RepO K H' o' v f'):RepO K H' (o.with o') v f':=by
 induction o with
 |anc a o ih=>exact⟨h.1,ih h.2⟩
 |_=>exact h'
end
def W.plain:W->Bool
 |.val _=>true
 |.pen=>true
 |_=>false
abbrev zhc:=List W->O->List W->(D->O->Prop)->Prop
structure zvs where
 nx:DSt->Prop
 rt:D->DSt->Prop
 bk:DSt->Prop:=λ_=>False
 ct:DSt->Prop:=λ_=>False
abbrev GTS:=zvs->DSt->Prop
abbrev zhd:=DSt->(List W->List W->Prop)->Prop
section
variable {X:Cx}{e:Expr}{es:List Expr}{k k' i j:Nat}{x:Str}{ps:List Str}{sp:zhc}{t:zhd}{p pos:Pos}
def ziy(K:PySem.W.Frag)(i:Nat)(sp:zhc)(t:zhd):TE:=λσ H Q=>∃H₀ σD o QD,DOk K H₀ H σD σ/\σD[i]?=some (some (.own o))/\t σD (λwp wq=>wp.all W.plain=true/\wq.all W.plain=true/\sp wp o.bare wq QD) /\
 ∀v H' d o',DOk K H₀ H' (clr (σD.set i (some (.own (o.with o'))))) σ->Pers H H'->Rep K H' d v->QD d o'->Q v H'
end
section
variable {X:Cx}{e:Expr}{pos:Pos}{i j:Nat}{sp:zhc}{t:zhd}{a b:List Stmt}{ta tb:DTS}
def zc3(i:Nat)(sp:zhc)(t:zhd)(N:D->DSt->Prop):DSt->Prop:=λσ=>match σ[i]? with
 |some (some (.own o))=>t σ λwp wq=>wp.all W.plain=true/\wq.all W.plain=true/\sp wp o.bare wq λd o'=>N d (clr (σ.set i (some (.own (o.with o')))))
 |_=>False
theorem ziz{K:PySem.W.Frag}{H H₀:Hp}{σD:DSt}{σ:St}{N:D->DSt->Prop}{Q:VK}(ok:DOk K H₀ H σD σ)(q:zc3 i sp t N σD)(kq:∀v H' d σD',DOk K H₀ H' σD' σ->Pers H H'->Rep K H' d v->N d σD'->Q v H'):ziy K i sp t σ H Q:=by
 unfold zc3 at q
 split at q
 ·next o eo=>exact⟨H₀,σD,o,_,ok,eo,q,λv H' d o' ok' pr rp qd=>kq v H' d _ ok' pr rp qd⟩
 ·exact q.elim
end
end L2
namespace SV
open PySem
theorem mem_getD{xs:Array Nat}{x:Nat}(h:x∈xs.toList):∃i,i<xs.size/\xs.getD i 0=x:=by
 obtain⟨i,hi,e⟩:=List.getElem_of_mem h;have hi':i<xs.size:=by simpa using hi
 exact⟨i,hi',by simpa[Array.getD,hi']using e⟩
def Not(xs:Array Nat)(j:Nat):Prop:=xs[SetTable.below xs j]?≠some j
end SV
namespace PySem
section
variable {prog:Program}{w:World}{A:Around}{E:Value->Shared->Prop}{s:Shared}{a:Addr}{o:Obj}{es:Array (Int×Value)}{ep:Nat}{t:SetTable}
theorem zc4{α:Type}:∀{xs:List α}{i:Nat} (h:i<xs.length),(xs[i]::xs.eraseIdx i).Perm xs
 |x::xs,0,h=>by simp
 |x::xs,i+1,h=>by
  have:=zc4 (xs:=xs) (i:=i) (by simpa using h);simp only[List.getElem_cons_succ,List.eraseIdx_cons_succ];exact(List.Perm.swap _ _ _).trans (this.cons x)
end
end PySem
namespace SV
open PySem
def sl(t:SetTable)(i:Nat):Nat:=if i=0 then 0 else t.place.getD (i-1) 0+1
theorem zke{α:Type}{next:Nat->Nat}:∀(fuel k:Nat) (left:List α) (out:Array α),fuel=left.length->(pickOrder.go next fuel k left out).toList.Perm (out.toList++left)
 |0,k,left,out,h=>by
  cases left with
  |nil=>simp[pickOrder.go]
  |cons x l=>cases h
 |fuel+1,k,left,out,h=>by
  have hi:next k % left.length<left.length:=Nat.mod_lt _ (by omega);unfold pickOrder.go;rw[List.getElem?_eq_getElem hi];dsimp only;refine(zke fuel (k+1) _ _ (by rw[List.length_eraseIdx_of_lt hi];omega)).trans ?_;rw[Array.toList_push,List.append_assoc];exact List.Perm.append_left _ (zc4 hi)
theorem pick_perm{α:Type}(next:Nat->Nat)(xs:Array α):(pickOrder next xs).toList.Perm xs.toList:=by
 have:=zke (next:=next) xs.size 0 xs.toList #[] (by simp);simpa[pickOrder]using this
end SV
namespace L2
open PySem PySem.Spec PyProof.Rows
theorem zi0{pos:Pos}{a b:Int}{c cv:Value}(l:List Value)(h:TriplesOk l)(e:codeAmong pos (l ++ [rawInt a,rawInt b,c])=some cv):codeAmong pos l=some cv\/cv=c:=by
 fun_induction TriplesOk l with
 |case1=>
  simp only[List.nil_append,codeAmong,rawInt]at e
  split at e
  ·exact .inr (Option.some.inj e).symm
  ·cases e
 |case2 a' t b' u x rest ih=>
  simp only[List.cons_append,codeAmong]at e ⊢
  split at e
  ·rename_i z;rw[if_pos z];exact .inl e
  ·rename_i z;rw[if_neg z];exact ih h e
 |case3 l h1 h2=>exact h.elim
theorem zkf{x y:Value}{more:Array Value}(h : #[x]++more = #[y]):x=y:=by
 have:=congrArg Array.toList h;simp at this;exact this.1
def jk(mg:Str->Option Value)(base:Heap):Prop:=∃bm o,mg "__builtins__" = some (.ref bm)/\bm≠builtinsNs/\base.get? bm=some o/\o.cls=.type "module" /\ o.dict=some builtinsNs/\o.data=.plain
def zab(q:Str)(P:Addr)(H:Hp):Prop:=∃t more,H P=some (.tbl (#[.str q t]++more))
section
variable {X:Cx}{pins:List (Addr×Obj)}{σ:St}{H:Hp}{s:Shared}{P c:Addr}{q:Str}
theorem Inv.tabAt(I:Inv X pins σ H s)(h:zab q P X.H₀):zab q P H:=by
 obtain⟨t,m,e⟩:=h;obtain⟨m2,e2⟩:=I.base.tbls _ _ e;exact⟨t,m++m2,by rw[e2,Array.append_assoc]⟩
theorem Inv.tabOk(I:Inv X pins σ H s)(h:zab q P H):∃ps:Array Value,s.heap.get? P=some { cls:=.none,data:=.fields ps }/\TriplesOk ps.toList /\
  ∀pos cv,codeAmong pos ps.toList=some cv->∃c' oc u,cv=.ref c'/\H c'=some (.frz oc u)/\zjf oc q:=by
 obtain⟨t,m,e⟩:=h;obtain⟨ps,q',t',lab,r1,r2,r3⟩:=(show zf7 H s.heap P _ from I.hok P _ e)
 have:=zkf lab
 cases this;exact⟨ps,r1,r2,r3⟩
theorem Inv.bltAt(I:Inv X pins σ H s)(hB:jk X.mg X.base)(hP:H P≠none):s.heap.BuiltinsAt X.mg P:=by
 obtain⟨bm,o,h1,h2,h3,h4,h5,h6⟩:=hB;refine⟨bm,o,h1,h2,λz=>?_,λz=>?_,(I.bs _ _ h3).1,h4,h5,h6⟩
 ·obtain⟨o',es,ep,e,d,_⟩:=I.mod.glob;rw[<-z,h3]at e
  cases e;rw[h6]at d
  cases d
 ·exact hP (z ▸ (I.bs _ _ h3).2)
theorem Inv.globNe(I:Inv X pins σ H s)(hP:H P≠none):mainGlobals≠P:=λz=>by
 obtain⟨o',es,ep,e,d,_⟩:=I.mod.glob;exact hP (z ▸ (I.bs _ _ e).2)
end
section
variable {X:Cx}{pins:List (Addr×Obj)}{σ:St}{H:Hp}{a it S f:Addr}{xs:List V}{kf:Nat->Int}{kwd:List (Str×Value)}{R:Value->Shared->Prop}
theorem FpOk.at{b:Addr}{H1 H2:Hp}(h:FpOk X pins H1 b)(n:H2 b=none):FpOk X pins H2 b:=⟨n,h.2⟩
theorem FpOk.inv{b:Addr}{H1:Hp}{s:Shared}{h':Heap}{t':Nat}(h:FpOk X pins H1 b)(I:Inv X pins σ H1 s)(k:∀c o,c≠b->s.heap.get? c=some o->h'.get? c=some o):Inv X pins σ H1 { s with heap:=h',toks:=t' } :=
 I.turned k h.1 h.2.1 h.2.2.2.1 h.2.2.2.2.1 h.2.2.2.2.2
theorem zwm{H1:Hp}{s:Shared}{oi os:Obj}(I:Inv X pins σ H1 s)(h1:FpOk X pins H1 it)(h2:FpOk X pins H1 S)(g1:s.heap.get? it=some oi)(g2:s.heap.get? S=some os)(n1:∀v,oi.data ≠ .cell v)(n2:∀v,os.data ≠ .cell v):
  Inv X (pins ++ [(it,oi),(S,os)]) σ H1 s:=I.pins_of λp hp=>by
 rcases List.mem_append.mp hp with hp|hp
 ·exact I.pin p (List.mem_append_right _ hp)
 ·rcases List.mem_cons.mp hp with rfl|hp
  ·exact⟨g1,h1.1,h1.2.1,h1.2.2.1,n1⟩
  ·rw[List.mem_singleton.mp hp];exact⟨g2,h2.1,h2.2.1,h2.2.2.1,n2⟩
end
def qp(q:Str)(T:Addr)(sp:Sp):Sp:=λvs H Q E=>zab q T H/\sp vs H Q E
section
variable {X:Cx}{e:Expr}{es:List Expr}{k k':Nat}{x q:Str}{T:Addr}{ps:List Str}{sp:DSp}{t:DTP}{p pos:Pos}
theorem zoo{sp:Sp}{t:TA}(C:ym X.prog X.w X.K X.mg X.base k x ps (qp q T sp))(hT:zab q T X.H₀)(hr:Room k' X.A)(hg:Gl X x)(ha:PA X (e::es) t)(hk:k<=k')
  (hdb:(x ==("__debug__" : Str))=false) (he:starEach (e::es) X.env=(false,eval e X.env)::starEach es X.env) (hpl:(backTo pos (starEach es X.env)).any (·.1)=false):PE X (.Call (.Name x p) (e::es) [] pos) (zjk sp [] E0 t):=λpins s σ H Q I h=>by
 obtain⟨f,fd,F,b,kp,m⟩:=C;refine wpAny_Call_Name_kw (kb I hg m ?_ hdb);refine PySem.W.callWith_K (h₀:=X.base) I.ok.mod.kin kp (thn (ha pos pins s σ H _ I h) λus s1 ⟨vs,H1,I1,r,z⟩=>⟨I1.kIn,?_⟩) he hpl;exact zmv F (hr.mono hk) b .nil zrl I1 r ⟨I1.tabAt hT,z⟩
theorem zlw{pins:List (Addr×Obj)}{σ:St}{H H₀:Hp}{σD:DSt}{s:Shared}{Q:Ret->Prop}(C:ym X.prog X.w X.K X.mg X.base k x ps (qp q T (yf X.K sp)))(hT:zab q T X.H₀)(hr:Room k' X.A)(hg:Gl X x)(ha:DPs X (e::es) t)(hk:k<=k')
  (hdb:(x ==("__debug__" : Str))=false) (he:starEach (e::es) X.env=(false,eval e X.env)::starEach es X.env) (hpl:(backTo pos (starEach es X.env)).any (·.1)=false) (I:Inv X pins σ H s) (ok:DOk X.K H₀ H σD σ) (z:t σD λws=>sp ws Q) :
  wpAny (model X.prog X.w) X.A (eval (.Call (.Name x p) (e::es) [] pos) X.env) (λu s'=>∃v H' r,Inv X pins σ H' s'/\RelV v u/\Same H H'/\zax X.K H H' r v/\Q r) X.xe s:=by
 refine thn (zoo C hT hr hg ha.pa hk hdb he hpl pins s σ H (λv H'=>∃r,Same H H'/\zax X.K H H' r v/\Q r) I ?_) λu s' zq29=>by obtain⟨v,H',I',r,z,sm,rp,qd⟩:=zq29;exact⟨v,H',z,I',r,sm,rp,qd⟩
 refine⟨H₀,σD,_,ok,z,λvs H1 ws s1 r1 q1=>⟨ws,Q,by rw[List.append_nil];exact r1,q1,λv H' r s2 rp qd=>⟨r,s1.trans s2,?_,qd⟩⟩⟩
 cases r with
 |val d=>exact rp
 |new xs=>obtain⟨a,vs,e1,n,e2,r⟩:=rp;exact⟨a,vs,e1,s1.free n,e2,r⟩
theorem zc5(C:ym X.prog X.w X.K X.mg X.base k x ps (qp q T (yf X.K sp)))(hT:zab q T X.H₀)(hr:Room k' X.A)(hg:Gl X x)(ha:DPs X (e::es) t)(hk:k<=k':=by decide)(hdb:(x ==("__debug__" : Str))=false:=by decide)
  (he:starEach (e::es) X.env=(false,eval e X.env)::starEach es X.env:=by rfl) (hpl:(backTo pos (starEach es X.env)).any (·.1)=false:=by rfl):DE X (.Call (.Name x p) (e::es) [] pos) (zej sp t) :=
 ⟨λpins s σ H H₀ σD Q I ok z=>thn (zlw C hT hr hg ha hk hdb he hpl I ok z) λu s' zq87=>by
  obtain⟨v,H',r,I',rv,sm,rp,qd⟩:=zq87
  cases r with
  |val d=>exact⟨v,H',d,I',rv,sm,rp,qd⟩
  |new xs=>
   obtain⟨a,vs,rfl,n,e,r⟩:=rp;obtain⟨H'',J,sm',r'⟩:=je I' sm n e r;exact⟨.ref a,H'',.list xs,J,rv,sm',r',qd⟩⟩
end
section
variable {P:Program}{w:World}{K:PySem.W.Frag}{mg:Str->Option Value}{base:Heap}
theorem Fun.dokT{x qual q:Str}{T:Addr}{st:Stmt}{f:Addr}{fd:FuncData}{N ps:List Str}{k:Nat}{sp:DSp}(F:Fun K x qual st f fd)(S:yb N ps (zc st))(len:∀ws Q,sp ws Q->ws.length=ps.length)
  (hbody:∀(A:Around) (outer:List Env) (s:Shared) (H:Hp) (ws:List W) (Q:Ret->Prop) (E:XK),Room k (A.deeper (envOfC qual (zc st) s.heap.objs.size f fd.code))->zab q T H->sp ws Q ->
   ∃t,DSs (vj CX0 P w K mg base N qual (zc st) f fd.code A outer s H E).nox (zh st) t/\t { nx:=λ_=>Q (.val .none),rt:=Q } (jg N ws)):FnOk P w K mg base CX0 (k+1) f fd ps (qp q T (yf K sp)):=by
 obtain⟨oc,od,kV,doc,pm,an,cdv,ct,osl,rfl,lk,hcd⟩:=F.ex;refine zmw lk hcd S (λvs H Q E h=>?_) λA outer s H vs Q E hr h=>?_
 ·obtain⟨_,ws,QD,r,z,_⟩:=h;rw[<-r.length];exact len ws QD z
 ·obtain⟨hT,ws,QD,r,z,kk⟩:=h;obtain⟨t,ht,hq⟩:=hbody A outer s H ws QD E hr hT z;exact⟨_,ht.ps.nox,H,_,_,DOk.begin r N,hq,λσ' H' σD' ok' p' q'=>kk .non H' (.val .none) ok'.same .non q',λv H' r' sm rp qr=>kk v H' r' sm rp qr,λ_ _ _ _ _ z=>z.elim,λ_ _ _ _ _ z=>z.elim⟩
end
def zx(T:Addr)(K:PySem.W.Frag):PySem.W.Frag:=K.filter λp=>p.1 != T
theorem qz{T a:Addr}(h:a≠T):∀K:PySem.W.Frag,(zx T K).lookup a=K.lookup a
 |[]=>rfl
 |(b,o)::K=>by
  have ih:=qz h K;unfold zx at ih ⊢
  by_cases z:b=T
  ·subst z;rw[List.filter_cons_of_neg (by simp),ih,List.lookup_cons,show(a == b)=false by simpa using h]
  ·rw[List.filter_cons_of_pos (by simpa using z),List.lookup_cons,List.lookup_cons,ih]
theorem zbq{T:Addr}:∀K:PySem.W.Frag,(zx T K).lookup T=none
 |[]=>rfl
 |(b,o)::K=>by
  have ih:=zbq (T:=T) K;unfold zx at ih ⊢
  by_cases z:b=T
  ·rw[List.filter_cons_of_neg (by simp[z]),ih]
  ·rw[List.filter_cons_of_pos (by simpa using z),List.lookup_cons,show(T == b)=false by simpa using Ne.symm z,ih]
section
variable {T a:Addr}{K:PySem.W.Frag}{h:Heap}
abbrev zb3:Obj:={ cls:=.none,data:=.fields #[] }
theorem zkg(X:K.In h):(zx T K).In h:=λb o e=>by
 by_cases z:b=T
 ·subst z;rw[zbq]at e;cases e
 ·rw[qz z]at e;exact X b o e
theorem yg(X:K.In h)(gT:h.get? T=some zb3){o:Obj}(l:K.lookup a=some o)(n:o≠zb3):(zx T K).lookup a=some o:=by
 rw[qz λz=>n ?_]
 ·exact l
 ·have e:=X _ _ l;rw[z,gT]at e;exact(Option.some.inj e).symm
theorem zt{ns:Addr}(hg:ns≠T){x:Str}:PySem.W.nsIn (zx T K) ns x=PySem.W.nsIn K ns x:=by
 unfold PySem.W.nsIn;rw[qz hg]
theorem z6(X:K.In h)(gT:h.get? T=some zb3){cd:Value}{q:Str}(e:PySem.W.codeIn K cd q=true):PySem.W.codeIn (zx T K) cd q=true:=by
 obtain⟨c,o,vs,t,rfl,g,d,r⟩:=PySem.W.codeRec_of X e;have z:c≠T:=λz=>by
  subst z;rw[gT]at g
  cases g
  cases d
  cases r
 unfold PySem.W.codeIn at e ⊢;dsimp only at e ⊢;rw[qz z];exact e
theorem z7(X:K.In h)(gT:h.get? T=some zb3){oc:Value}{od:Option Addr}{fd:FuncData}{sl:Array (Option Value)}(l:K.lookup a=some ⟨oc,od,.func fd,sl⟩):PySem.W.keepIn (zx T K) (.ref a)=true:=by
 unfold PySem.W.keepIn;dsimp only;rw[yg X gT l (λz=>by cases z)]
theorem zop{mg:Str->Option Value}(G:h.Ns mainGlobals mg)(gT:h.get? T=some zb3):mainGlobals≠T:=λz=>by
 obtain⟨o',es,ep,e,d,_⟩:=G;rw[z,gT]at e
 cases e
 cases d
def HdO(oc:Obj)(T:Addr):Prop:=∃vs file tf flags tg inF text tt,oc.cls=.type "code" /\ oc.data=.fields vs/\vs[11]?=some (.ref T)/\vs.getD 11 .none=.ref T/\vs.getD 18 .none=.str file tf /\
  vs.getD 7 .none=.int flags tg/\vs.getD 9 .none=.bool inF/\vs.getD 10 .none=.int text tt
theorem HdO.hd{oc:Obj}{c:Addr}(x:HdO oc T)(e:h.get? c=some oc)(n:c≠T):PySem.W.CodeHd h c T :=
 by obtain⟨vs,file,tf,flags,tg,inF,text,tt,r1,r2,r3,r4,r5,r6,r7,r8⟩:=x;exact⟨oc,vs,file,tf,flags,tg,inF,text,tt,e,r1,r2,r3,r4,r5,r6,r7,r8,n⟩
end
theorem zlx{P:Program}{w:World}{K:PySem.W.Frag}{mg mb:Str->Option Value}{k:Nat}{fa a T c:Addr}{oc:Obj}{fd:FuncData}{x q:Str}{sp:Sp}{s₁:Shared}{vs:List Value}{ns:List Int}
  (KX:K.In s₁.heap) (hTK:K.lookup T=none) (gT:s₁.heap.get? T=some zb3) (gc:s₁.heap.get? c=some oc) (hO:HdO oc T) (hcT:c≠T) (hB:jk mg s₁.heap) (hns:s₁.heap.Ns mainGlobals mg) (hb:s₁.heap.Ns builtinsNs mb) (hbb:∀x:Str,x ≠ "__name__" -> mb x=bootBuiltins x) (hlim:s₁.heap.NoLimit) (hg:s₁.gens = #[])
  (ha:s₁.heap.get? a=some { cls:=.type "list",data:=.seq vs.toArray }) (hi:IntsAre vs ns) (hl:ns.length<=sizeLine) (hr:Room k callerA)
  (F:∀base:Heap,K.In base->base.Ns mainGlobals mg->jk mg base->PySem.W.CodeHd base c T->FnOk P w K mg base CX0 k fa fd [x] (qp q T sp)) (hbind:∀(s:Shared) (u:Value),BindsTo s fd ⟨[u],[]⟩ [(x,u)])
  (hsp:∀H:Hp,SqL K H a (ns.map V.int)->sp [.ref a] H (λv _=>v=.bl true) λ_ _ _=>False) :
  codeAny (model P w) callerA (.call (.ref fa) ⟨[.ref a],[]⟩) (λr s'=>r=.ok (.ret (.bool true))/\OldK s₁.heap s'.heap/\s'.os=s₁.os/\AllBare s'.gens) s₁:=by
 have rv:=zec hi;have lenV:=hi.length;have core:∀H:Hp,H T=some (.tbl #[.str q 0])->SqL K H a (ns.map V.int)->HOk P w H s₁.heap->(∀b,H b=none\/b=T\/(b=a/\K.lookup a=none/\∃o xs,H a=some (.frz o (.lst xs)))) ->
   codeAny (model P w) callerA (.call (.ref fa) ⟨[.ref a],[]⟩) (λr s'=>r=.ok (.ret (.bool true))/\OldK s₁.heap s'.heap/\s'.os=s₁.os/\AllBare s'.gens) s₁:=by
  intro H hT hS hok hA;have up:∀{b:Addr}{o:Obj},s₁.heap.get? b=some o->H b=none->(zcd s₁.heap H).get? b=some o:=λe n=>zmh e n;have free:∀{b:Addr}{o:Obj},s₁.heap.get? b=some o->b≠T->(∀its n,o.data ≠ .seq its n)->H b=none:=λ{b o} e n d=>by
   rcases hA b with z|z |⟨z,_⟩
   ·exact z
   ·exact absurd z n
   ·subst z;rw[ha]at e;cases e;exact absurd rfl (d _ _)
  have nT:∀{b:Addr}{o:Obj},s₁.heap.get? b=some o->o.data ≠ .fields #[]->b≠T:=λ{b o} e d z=>by subst z;rw[gT]at e;cases e;exact d rfl
  have nsK:∀{b:Addr}{m:Str->Option Value},s₁.heap.Ns b m->(zcd s₁.heap H).Ns b m:=λ{b m} ⟨o,es,ep,e,d,r⟩=>⟨o,es,ep,up e (free e (nT e (by rw[d];intro z;cases z)) (by rw[d];intro _ _ z;cases z)),d,r⟩
  have hKb:K.In (zcd s₁.heap H):=λb o e=>up (KX b o e) (by
   rcases hA b with z|z |⟨z,z2,_⟩
   ·exact z
   ·rw[z,hTK]at e;cases e
   ·rw[z,z2]at e;cases e)
  have hBb:jk mg (zcd s₁.heap H):=let ⟨bm,o,h1,h2,h3,h4,h5,h6⟩:=hB;⟨bm,o,h1,h2,up h3 (free h3 (nT h3 (by rw[h6];intro z;cases z)) (by rw[h6];intro _ _ z;cases z)),h4,h5,h6⟩;have hCb:PySem.W.CodeHd (zcd s₁.heap H) c T:=hO.hd (up gc (free gc hcT (by obtain⟨vs,_,_,_,_,_,_,_,_,r2,_⟩:=hO;rw[r2];intro _ _ z;cases z))) hcT;have hM:Mod K mg (zcd s₁.heap H):=⟨hKb,nsK hns,⟨mb,nsK hb,hbb⟩,let ⟨mc,h1,h2⟩:=hlim;⟨mc,nsK h1,h2⟩⟩
  have e0:Env0 P w K mg (zcd s₁.heap H) callerA [] s₁ H:=⟨rfl,hM,λb o e=>zpg e,Nat.le_of_eq (zkv _ _),trivial,λb hb=>absurd (show b∈([]:List Addr) from hb) (by simp),hok,.of_eq hg⟩
  refine codeAny_mono ((F _ hKb (nsK hns) hBb hCb).run callerA [] s₁ H ⟨[.ref a],[]⟩ [.ref a] [.ref a] _ _ hr e0 (hbind s₁ (.ref a)) (.cons rfl .nil) ⟨⟨0,#[],hT⟩,hsp H hS⟩) λr s' h=>?_
  cases r with
  |error e=>exact False.elim h
  |ok fl=>
   cases fl with
   |next=>exact False.elim h
   |brk=>exact False.elim h
   |cont=>exact False.elim h
   |ret u=>
    obtain⟨v,H',os,bare,un,hok',r',z⟩:=h;have z':v=.bl true:=z;subst z';obtain rfl:u=Value.bool true:=r';have tab:∃ps:Array Value,s'.heap.get? T=some { cls:=.none,data:=.fields ps }:=by
     obtain⟨m,e⟩:=un.tbls T _ hT;obtain⟨ps,_,_,_,g,_⟩:=(show zf7 H' s'.heap T _ from hok' T _ e)
     exact⟨ps,g⟩
    have all:∀b o,s₁.heap.get? b=some o->s'.heap.get? b=some o\/b=T:=λb o e=>by
     rcases hA b with z|z |⟨z,_,ob,xs,z2⟩
     ·exact .inl (un.keep b o e z (by intro y;exact absurd (show b∈([]:List Addr) from y) (by simp)) (by simp))
     ·exact .inr z
     ·subst z;obtain⟨e1,_⟩:=(show ObjOk P w H s₁.heap b _ from hok b _ z2)
      obtain⟨e2,_⟩:=(show ObjOk P w H' s'.heap b _ from hok' b _ (un.frzs b ob _ z2))
      rw[e]at e1;cases e1;exact .inl e2
    obtain⟨ps,gp⟩:=tab;refine⟨rfl,⟨λb o e=>?_,λb o e=>?_⟩,os,bare⟩
    ·rcases all b o e with z|z
     ·exact .inl z
     ·subst z;rw[gT]at e
      cases e;exact .inr (.inl ⟨((hO.hd gc hcT).tab gT).isCodeTable,rfl,#[],ps,rfl,by rw[gp];simp⟩)
    ·rcases all b o e with z|z
     ·exact⟨o,z⟩
     ·subst z;exact⟨_,gp⟩
 have nTa:a≠T:=λz=>by rw[z,gT]at ha;cases ha
 have tk:∀H:Hp,zf7 H s₁.heap T #[.str q 0]:=λH=>⟨#[],q,0,rfl,gT,trivial,λpos cv y=>by cases y⟩
 cases hk:K.lookup a with
 |some o=>
  have e:=KX a o hk;rw[ha]at e
  cases e;refine core (λb=>if b=T then some (.tbl #[.str q 0]) else none) (if_pos rfl) (.inr ⟨_,vs.toArray,_,hk,rfl,rfl,rfl,by rw[List.size_toArray,lenV];exact hl,by simpa using rv⟩) (λb u z=>?_) λb=>?_
  ·by_cases hb:b=T
   ·have z':=(if_pos hb).symm.trans z
    cases z';subst hb;exact tk _
   ·have z':=(if_neg hb).symm.trans z
    cases z'
  ·by_cases hb:b=T
   ·exact .inr (.inl hb)
   ·exact .inl (if_neg hb)
 |none=>
  have eT:(λb=>if b=T then some (HO.tbl #[.str q 0]) else if b=a then some (.frz { cls:=.type "list",data:=.seq vs.toArray } (.lst (ns.map V.int))) else none) T=some (.tbl #[.str q 0]):=if_pos rfl;have eA:(λb=>if b=T then some (HO.tbl #[.str q 0]) else if b=a then some (.frz { cls:=.type "list",data:=.seq vs.toArray } (.lst (ns.map V.int))) else none) a=some (.frz { cls:=.type "list",data:=.seq vs.toArray } (.lst (ns.map V.int))):=(if_neg nTa).trans (if_pos rfl);refine core (λb=>if b=T then some (HO.tbl #[.str q 0]) else if b=a then some (.frz { cls:=.type "list",data:=.seq vs.toArray } (.lst (ns.map V.int))) else none) eT (.inl (.inr ⟨{ cls:=.type "list",data:=.seq vs.toArray },eA⟩)) (λb u z=>?_) λb=>?_
  ·by_cases hb:b=T
   ·subst hb;rw[eT]at z
    cases z;exact tk _
   ·by_cases hb2:b=a
    ·subst hb2;rw[eA]at z
     cases z;exact⟨ha,by rw[List.length_map];exact hl,vs,_,rv,ha⟩
    ·have z':=((if_neg hb).trans (if_neg hb2)).symm.trans z
     cases z'
  ·by_cases hb:b=T
   ·exact .inr (.inl hb)
   ·by_cases hb2:b=a
    ·exact .inr (.inr ⟨hb2,hk,_,_,eA⟩)
    ·exact .inl ((if_neg hb).trans (if_neg hb2))
theorem walk_ofT{l:PySem.W.OpenLaw}{n k:Nat}{ql:Program}{loose:List Str}{XP:(Str->Option Value)->Heap->Prop}{YP:World->Heap->Prop}{d:DefRec}{K:Params->PySem.W.Frag}{sp:World->Sp}{x q:Str}{T:Addr}
  (hn:l.most=some n) (hn2:n<=sizeLine) (hdf:d.params.defaults = []) (hr:Room k callerA)
  (hY:∀(w:World) (h:Heap),YP w h->(K w.params).In h/\h.get? T=some zb3)
  (F:∀(w:World) (mg:Str->Option Value) (fa:Addr) (h:Heap),(K w.params).In h->h.get? T=some zb3->h.Ns mainGlobals mg->mg d.name=some (.ref fa) ->
   ∃fd:FuncData,(∀(s:Shared) (u:Value),BindsTo s fd ⟨[u],[]⟩ [(x,u)])/\∃(c:Addr) (oc:Obj),(K w.params).lookup c=some oc/\HdO oc T/\c≠T /\
    ∀base:Heap,(zx T (K w.params)).In base->base.Ns mainGlobals mg->jk mg base->PySem.W.CodeHd base c T->FnOk l.prog w (zx T (K w.params)) mg base CX0 k fa fd [x] (qp q T (sp w)))
  (hsp:∀(w:World) (H:Hp) (a:Addr) (ns:List Int),ns.length<=n->SqL (zx T (K w.params)) H a (ns.map V.int)->sp w [.ref a] H (λv _=>v=.bl true) λ_ _ _=>False) :
  PySem.W.WalkO ql loose XP YP l.row.toRowW d [] (λf vs=>PySem.call f vs):=by
 refine Att.attach_call hn hdf λw s₀ s₁ mg mb fa o pm cd doc a vs ns G Y ho hd hcd hmg hobj hints hlen hg=>?_;obtain⟨KX,gT⟩:=hY w _ Y;obtain⟨fd,hb,c,oc,lc,hO,ne,hF⟩:=F w mg fa _ KX gT G.T.g hmg;obtain⟨bm,ob,b1,b2,b3,b4,b5,b6⟩:=G.T.bmain;exact zlx (zkg KX) (zbq _) gT (KX _ _ lc) hO ne ⟨bm,ob,b1,b2,b3,b4,b5,b6⟩ G.T.g G.T.b G.T.builtins G.T.nolimit hg hobj hints (Nat.le_trans hlen hn2) hr hF hb (λH hS=>hsp w H a ns hlen hS)
end L2
namespace PySem
open Sem (wp)
section
variable {prog:Program}{w:World}{A:Around}{E:Value->Shared->Prop}{h:Heap}{g:Array GenState}{d:Drawn}{t:Nat}{os:OsState}
variable {nm q:Str}{C N:Addr}{bs bm bmB bmN:List Value}{hdct:Bool}{sn:List Str}{sub:List Value}{ab:Bool}{col:Option Bool}{dd:Option Addr}{k0 k1 k2 k3 k5:Option Value}{B Bn newId nid initId inN:String}
theorem zqt(Fn:ExcBaseFacts Bn newId inN bmN)(hBn:bmB.contains (.type Bn)=true)(F:ExcBaseFacts B nid initId bmB)(T:OwnTail h bmB bm){mN:Str->Option Value}{us:List Value}{fI:Addr}{oI:Obj}{Q:Fin->Shared->Prop}
  (gC:h.get? C=some (excClassObj nm q C N bs bm hdct sn sub ab col dd k0 k1 k2 k3 k5 newId)) (gN:h.Ns N mN) (eI:mN "__init__" = some (.ref fI)) (gI:h.get? fI=some oI) (cI:oI.cls=.type "function") (zu:us.length<=sizeLine)
  (fin:∀h' e,Heap.MadeExcOf h h' e (.ref C) us->wpAny (model prog w) A (call (.ref fI) (.ref e::us)) (λr s'=>r=.none/\Q (.done (.ret (.ref e))) s') E ⟨h',g,d,t,os⟩) :
  wpAny (model prog w) A (Builtin.«type.__call__» ⟨.ref C::us,[]⟩) Q E ⟨h,g,d,t,os⟩:=by
 repeat (first|with_reducible refine wpAny_loadPart_at gC ?_|with_reducible refine wpAny_madeBy_exc gC ?_|wp_step)
 refine codeAny_call_builtin_code (Code.quiet_builtin _ Fn.quiet) (wpAny_check_new_subU Fn hBn T gC ?_);refine codeAny_exc_new_subU Fn hBn F T gC ?_ zu;show wpAny _ _ _ _ _ _;have up:∀b o,h.get? b=some o->((h.push { cls:=.type "tuple",data:=.seq us.toArray }).push { cls:=.ref C,data:=.fields #[.ref h.objs.size,.none,.none,.none,.bool false,.none] }).get? b=some o:=λb o z=>Heap.get?_push_of_some _ (Heap.get?_push_of_some _ z);have gC1:=up _ _ gC;have gI1:=up _ _ gI;have gN1:=gN.keeps up;have T1:=T.keeps up;have ge:((h.push { cls:=.type "tuple",data:=.seq us.toArray }).push { cls:=.ref C,data:=.fields #[.ref h.objs.size,.none,.none,.none,.bool false,.none] }).get? (h.objs.size+1)=some { cls:=.ref C,data:=.fields #[.ref h.objs.size,.none,.none,.none,.bool false,.none] }:=by heap_get
 have self:(Value.ref C::bm).contains (.ref C)=true:=by simp
 unfold isInstance
 repeat (first|with_reducible refine wpAny_loadPart_at ge ?_ |(with_reducible refine wpAny_isSubtype_exc gC1 ?_;rw[self])|wp_step)
 show wpAny _ _ (typeLookup (.ref C) _) _ _ _;refine wpAny_typeLookup_tail gC1 gN1 T1 F.mroIs F.init.lookup ?_;rw[eI];refine wpAny_holding (wpAny_bind ?_);unfold bindSpecial;refine wpAny_bind (wpAny_typeOf (T := "function") ⟨_,gI1,cI⟩ ?_);rw[if_pos (by decide)];refine wpAny_pure (wpAny_bind (wpAny_mono (fin _ (h.objs.size+1) ⟨up,Heap.get?_none_of_le (Nat.le_succ _),h.objs.size,ge,Heap.get?_none_of_le (Nat.le_refl _),?_⟩) (λr s' z=>?_) λ_ _ z=>z))
 ·exact Heap.get?_push_of_some _ (Heap.get?_push_at rfl rfl)
 ·obtain⟨rfl,z⟩:=z
  wp_walk
  exact z
theorem zqu(Fn:ExcBaseFacts Bn newId inN bmN)(hBn:bmB.contains (.type Bn)=true)(F:ExcBaseFacts B nid initId bmB)(T:OwnTail h bmB bm){mN:Str->Option Value}{us:List Value}{fI:Addr}{oI:Obj}{Q:Value->Shared->Prop}
  (gC:h.get? C=some (excClassObj nm q C N bs bm hdct sn sub ab col dd k0 k1 k2 k3 k5 newId)) (gN:h.Ns N mN) (eI:mN "__init__" = some (.ref fI)) (gI:h.get? fI=some oI) (cI:oI.cls=.type "function") (zu:us.length<=sizeLine)
  (fin:∀h' e,Heap.MadeExcOf h h' e (.ref C) us->wpAny (model prog w) (A.under (.builtin "type.__call__" ⟨.ref C::us,[]⟩)) (call (.ref fI) (.ref e::us)) (λr s'=>r=.none/\Q (.ref e) s') E ⟨h',g,d,t,os⟩) :
  wpAny (model prog w) A (call (.ref C) us) Q E ⟨h,g,d,t,os⟩:=by
 have l1:=tc_lookup;have l2:=tc_bind (.ref C);have ty:(⟨h,g,d,t,os⟩:Shared).TypeIs (.ref C) "type" :=⟨_,gC,rfl⟩
 refine wpAny_call (codeAny_of_tree ?_);show wpAny _ _ (callAny (.ref C) _) _ _ _
 repeat (any_goals (first|assumption|with_reducible refine wpAny_loadPart_at gC ?_|wp_step))
 refine⟨rfl,?_⟩;exact codeAny_call_builtin_at (Code.quiet_builtin _ (by decide +kernel)) entry_typeCall (wpAny_check_type_call_sub gC (zqt Fn hBn F T gC gN eI gI cI zu λh' e mk=>fin h' e mk))
end
end PySem
namespace PySem
open Sem (wp)
open Builtin Builtin.ObjectAttr
theorem zly{h:Heap}{bmB bm:List Value}(T:OwnTail h bmB bm){self:Value}{wh:Str}(hp:refuseLoop self wh bmB=pure ()):refuseLoop self wh bm=pure ():=by
 induction T with
 |base=>exact hp
 |own _ _ _ _ ih=>rw[refuseLoop_ref];exact ih
section
variable {prog:Program}{w:World}{A:Around}{E:Value->Shared->Prop}{h:Heap}{g:Array GenState}{d:Drawn}{t:Nat}{os:OsState}
variable {nm q:Str}{C N x:Addr}{bs bm bmB:List Value}{sn:List Str}{sub:List Value}{ab:Bool}{col:Option Bool}{dd:Option Addr}{k0 k1 k2 k3 k5:Option Value}{B newId sa owner:String}
 {mA:Str->Option Value}{name:Str}{v:Value}
theorem zoq{M:Model}{o:Obj}{nv:Value}{Q:Unit->Shared->Prop}(SF:StoreFacts B bmB sa owner)(T:OwnTail h bmB bm)
  (gC:h.get? C=some (excClassObj nm q C N bs bm true sn sub ab col dd k0 k1 k2 k3 k5 newId)) (gx:h.get? x=some o) (cx:o.cls=.ref C) (fin:Q () ⟨h,g,d,t,os⟩) :
  wpAny M A (checkBuiltinCall sa ⟨[.ref x,nv,v],[]⟩) Q E ⟨h,g,d,t,os⟩:=by
 have has:(Value.ref C::bm).contains (.type owner)=true:=by rw[List.contains_cons,T.hasType SF.hasOwner,Bool.or_true]
 have args:=SF.args (.ref x) nv v;simp only[checkBuiltinCall,SF.kind,SF.split];refine wpAny_bind ?_;unfold isInstance
 repeat (first |(with_reducible refine wpAny_loadPart_at gx ?_;rw[cx]) |(with_reducible refine wpAny_isSubtype_exc gC ?_;rw[has])|wp_step)
 cases sg:Manifest.signature? sa with
 |none=>exact wpAny_pure fin
 |some z=>
  simp only[argsOk,sg]at args;have e2:Bind.checkArgs sa z ⟨[.ref x,nv,v],[]⟩=pure ():=args;show wpAny M A (Bind.checkArgs sa z ⟨[.ref x,nv,v],[]⟩) Q E _;rw[e2];exact wpAny_pure fin
def zor(h h':Heap)(x C:Addr)(mA:Str->Option Value):Prop:=h'.Inst x C mA /\
 (∀b o,b≠x->(∀o0 dx,h.get? x=some o0->o0.dict=some dx->b≠dx)->h.get? b=some o->h'.get? b=some o) /\
 (∀o0,h.get? x=some o0->∃o1,h'.get? x=some o1/\o1.cls=o0.cls/\o1.data=o0.data/\o1.slots=o0.slots/\∃dx,o1.dict=some dx/\(∀dy,o0.dict=some dy->dx=dy)/\(o0.dict=none->h.objs.size<=dx))
theorem zos{tk:Tok}{Q:Fin->Shared->Prop}{ns:List Str}(SF:StoreFacts B bmB sa owner)(T:OwnTail h bmB bm)(hp:refuseLoop (.ref x) "__setattr__" bmB=pure ())
  (gC:h.get? C=some (excClassObj nm q C N bs bm true sn sub ab col dd k0 k1 k2 k3 k5 newId)) (look:PySem.W.Looks (model prog w) h (typeLookup (.ref C) name) none) (I:h.Inst x C mA)
  (fin:∀h' tk',zor h h' x C (λy=>if y=name then some v else mA y)->Q (.done (.ret .none)) ⟨h',g,d,tk',os⟩) (few:Within mA ns) (sz:ns.length<=1000) :
  wpAny (model prog w) A (Builtin.«object.__setattr__» ⟨[.ref x,.str name tk,v],[]⟩) Q E ⟨h,g,d,t,os⟩:=by
 obtain⟨o,gx,cx,ncl,dct⟩:=I;have pass:=zly T hp;unfold Builtin.«object.__setattr__»
 repeat (first|rw[refuse_eq] |(rw[refuseLoop_ref,pass]) |(with_reducible refine wpAny_loadPart_at gx ?_;rw[cx])|with_reducible refine wpAny_mroOf_exc gC ?_|with_reducible refine look.at ?_|wp_step)
 rcases dct with⟨dn,mn⟩ |⟨dx,ed,ne,nsx⟩
 ·rw[dn,if_neg (by simp[typeHasDict])]
  split
  ·next z=>cases z
  split
  ·next c z=>exact absurd z (ncl c)
  ·have gx1:(h.push { cls:=.type "dict",data:=.dict #[] }).get? x=some o:=Heap.get?_push_of_some _ gx;have xs:x≠h.objs.size:=Nat.ne_of_lt (Heap.lt_size gx);refine wpAny_bind (wpAny_alloc' ?_);refine wpAny_bind (wpAny_update' gx1 ?_);refine wpAny_pure ?_
   have gd:((h.push { cls:=.type "dict",data:=.dict #[] }).update x λo=>{ cls:=o.cls,dict:=some h.objs.size,data:=o.data,slots:=o.slots }).get? h.objs.size=some { cls:=.type "dict",data:=.dict #[] } :=
    (Heap.get?_update_ne _ _ _ _ xs.symm).trans (Heap.get?_push_at rfl rfl)
   have nd:((h.push { cls:=.type "dict",data:=.dict #[] }).update x λo=>{ cls:=o.cls,dict:=some h.objs.size,data:=o.data,slots:=o.slots }).Ns h.objs.size (λ_=>none):=⟨_,#[],_,gd,rfl,λe z=>absurd z (by simp),λ_=>rfl⟩
   show wpAny _ _ (storeInDict h.objs.size (.str name tk) name v) _ _ _;unfold storeInDict newKeyGuard;refine wpAny_bind (wpAny_pure (wpAny_bind (wpAny_nsSet1 (Heap.Ns1.of_empty nd) λh' n1 same=>?_)));obtain⟨oD,esD,epD,gD,dD,cD⟩:=n1.count (Within.cons name v Within.nil);refine wpAny_bind (wpAny_lookBehind gD (by rw[dD];exact pastItsLine_dict (Nat.le_trans cD (by rw[List.length_cons,List.length_nil,sizeLine_eq];omega))) ?_)
   wp_walk
   have gx':h'.get? x=some { cls:=o.cls,dict:=some h.objs.size,data:=o.data,slots:=o.slots }:=by
    refine(same.2 x xs).trans (Heap.get?_update_self _ gx1 ?_);have fr:=(Heap.get?_some_iff.mp gx).2;obtain⟨oc,od,odt,osl⟩:=o
    cases odt <;> first|rfl|exact fr
   refine fin h' _ ⟨⟨{ cls:=o.cls,dict:=some h.objs.size,data:=o.data,slots:=o.slots },gx',cx,ncl,.inr ⟨h.objs.size,rfl,xs.symm,?_⟩⟩,λb ob nb _ gb=>?_,λo0 g0=>?_⟩
   ·obtain⟨o',es,ep,e1,e2,e3,eu,e4⟩:=n1;exact⟨o',es,ep,e1,e2,e3,eu,λy=>by rw[e4 y];by_cases c:y=name <;> simp[c,mn]⟩
   ·exact(same.2 b (Nat.ne_of_lt (Heap.lt_size gb))).trans ((Heap.get?_update_ne _ _ _ _ nb).trans (Heap.get?_push_of_some _ gb))
   ·obtain rfl:o=o0:=Option.some.inj (gx.symm.trans g0);exact⟨_,gx',rfl,rfl,rfl,_,rfl,(λdy e=>by rw[dn]at e;cases e),λ_=>Nat.le_refl _⟩
 ·rw[ed];refine wpAny_pure ?_;show wpAny _ _ (storeInDict dx (.str name tk) name v) _ _ _;unfold storeInDict newKeyGuard;refine wpAny_bind (wpAny_pure (wpAny_bind (wpAny_nsSet1 nsx λh' n1 same=>?_)));obtain⟨oD,esD,epD,gD,dD,cD⟩:=n1.count (Within.cons name v few);refine wpAny_bind (wpAny_lookBehind gD (by rw[dD];exact pastItsLine_dict (Nat.le_trans cD (by rw[List.length_cons,sizeLine_eq];omega))) ?_)
  wp_walk
  exact fin h' _ ⟨⟨o,(same.2 x ne.symm).trans gx,cx,ncl,.inr ⟨dx,ed,ne,n1⟩⟩,λb ob _ nd gb=>(same.2 b (nd o dx gx ed)).trans gb,λo0 g0=>⟨o0,(same.2 x ne.symm).trans g0,rfl,rfl,rfl,dx,by
   obtain rfl:o=o0:=Option.some.inj (gx.symm.trans g0);exact ed,(λdy e=>by
   obtain rfl:o=o0:=Option.some.inj (gx.symm.trans g0);rw[ed]at e;exact Option.some.inj e),λz=>by
   obtain rfl:o=o0:=Option.some.inj (gx.symm.trans g0);rw[ed]at z;cases z⟩⟩
theorem zqv{Q:Unit->Shared->Prop}{ns:List Str}(SF:StoreFacts B bmB sa owner)(T:OwnTail h bmB bm)
  (gC:h.get? C=some (excClassObj nm q C N bs bm true sn sub ab col dd k0 k1 k2 k3 k5 newId)) (ls:PySem.W.Looks (model prog w) h (typeLookup (.ref C) "__setattr__") (some (.builtin sa))) (look:PySem.W.Looks (model prog w) h (typeLookup (.ref C) name) none) (I:h.Inst x C mA)
  (fin:∀h' tk',zor h h' x C (λy=>if y=name then some v else mA y)->Q () ⟨h',g,d,tk',os⟩) (few:Within mA ns) (sz:ns.length<=1000) :
  wpAny (model prog w) A (setAttr (.ref x) name v) Q E ⟨h,g,d,t,os⟩:=by
 obtain⟨o,gx,cx,_⟩:=id I;have b3:=SF.slot.bind (.ref x);unfold setAttr callSpecial? specialOf
 repeat (any_goals (first|assumption |(with_reducible refine wpAny_loadPart_at gx ?_;rw[cx])|with_reducible refine ls.at ?_|wp_step))
 refine codeAny_call_builtin SF.slot.plain SF.entry (zoq SF T gC gx cx (zos SF T (SF.passes _) gC look I (λh' tk' z=>?_) few sz))
 repeat (any_goals (first|assumption|wp_step))
 exact fin h' tk' z
end
end PySem
namespace PySem
open Sem (wp)
section
variable {M:Model}{A:Around}{E:Value->Shared->Prop}{s:Shared}{env:Env}
variable {nm q:Str}{C N:Addr}{bs bm bmB bmN:List Value}{hdct:Bool}{sn:List Str}{sub:List Value}{ab:Bool}{col:Option Bool}{dd:Option Addr}{k0 k1 k2 k3 k5:Option Value}{B Bn newId nid initId inN:String}
theorem zqw{x:Sem Value}{Q:Flow->Shared->Prop}(hb:bm.contains (.type "BaseException")=true)(hh:A.handled=none)
  (h:wpAny M A x (λv s1=>∃e t od,v=.ref e/\s1.heap.get? C=some (excClassObj nm q C N bs bm hdct sn sub ab col dd k0 k1 k2 k3 k5 newId)/\s1.heap.get? e=some { cls:=.ref C,dict:=od,data:=.fields #[.ref t,.none,.none,.none,.bool false,.none] }/\E (.ref e) s1) E s) :
  wpAny M A (raiseStmt env (some x) none) Q E s:=by
 have has:(Value.ref C::bm).contains (.type "BaseException")=true:=by rw[List.contains_cons,hb,Bool.or_true]
 unfold raiseStmt;refine wpAny_bind (wpAny_mono h (λv s1 z=>?_) λ_ _ z=>z);obtain⟨e,t,od,rfl,gC,ge,z⟩:=z;obtain⟨hp,g,d,tk,os⟩:=s1
 repeat (first|with_reducible refine wpAny_loadPart_at ge ?_|with_reducible refine wpAny_loadPart_at gC ?_ |(with_reducible refine wpAny_isSubtype_exc gC ?_;rw[has])|wp_step)
 exact wpAny_raiseNew_none hh z
end
section
variable {prog:Program}{w:World}{A:Around}{E:Value->Shared->Prop}{s:Shared}{env:Env}
variable {nm q:Str}{C N:Addr}{bs bm bmB bmN:List Value}{hdct:Bool}{sn:List Str}{sub:List Value}{ab:Bool}{col:Option Bool}{dd:Option Addr}{k0 k1 k2 k3 k5:Option Value}{B Bn newId nid initId inN:String}
theorem zot(Fn:ExcBaseFacts Bn newId inN bmN)(hBn:bmB.contains (.type Bn)=true)(F:ExcBaseFacts B nid initId bmB){x:Str}{np cpos pos:Pos}{args:List Expr}{fI:Addr}{oI:Obj}{Q:Flow->Shared->Prop}
  (hb:bm.contains (.type "BaseException")=true) (hh:A.handled=none) (hp:(backTo cpos (starEach args env)).any (·.1)=false) (cI:oI.cls=.type "function")
  (h:wpAny (model prog w) A (eval (.Name x np) env) (λf s1=>f=.ref C/\wpAny (model prog w) A (evalArgs (.ref C) true (backTo cpos (starEach args env)) [])
   (λa s2=>a.kw = []/\a.pos.length<=sizeLine/\s2.heap.get? C=some (excClassObj nm q C N bs bm hdct sn sub ab col dd k0 k1 k2 k3 k5 newId)/\(∃mN:Str->Option Value,s2.heap.Ns N mN/\mN "__init__" = some (.ref fI))/\OwnTail s2.heap bmB bm/\s2.heap.get? fI=some oI /\
    ∀h' e,Heap.MadeExcOf s2.heap h' e (.ref C) a.pos->wpAny (model prog w) (A.under (.builtin "type.__call__" ⟨.ref C::a.pos,[]⟩)) (call (.ref fI) (.ref e::a.pos))
     (λr s3=>r=.none/\s3.heap.get? C=some (excClassObj nm q C N bs bm hdct sn sub ab col dd k0 k1 k2 k3 k5 newId)/\(∃t od,s3.heap.get? e=some { cls:=.ref C,dict:=od,data:=.fields #[.ref t,.none,.none,.none,.bool false,.none] })/\E (.ref e) s3) E { s2 with heap:=h' }) E s1) E s) :
  wpAny (model prog w) A (exec (.Raise (some (.Call (.Name x np) args [] cpos)) none pos) env) Q E s:=by
 rw[arm_exec_Raise];refine wpAny_bind (wpAny_standAt (zqw (C:=C) (nm:=nm) (q:=q) (N:=N) (bs:=bs) (bm:=bm) (hdct:=hdct) (sn:=sn) (sub:=sub) (ab:=ab) (col:=col) (dd:=dd) (k0:=k0) (k1:=k1) (k2:=k2) (k3:=k3) (k5:=k5) (newId:=newId) hb hh (wpAny_bind (wpAny_mono (wpAny_Call_ofName (wpAny_mono h (λf s1 z=>?_) λ_ _ z=>z)) (λv s3 z=>wpAny_bind (wpAny_standAt (wpAny_pure z))) λ_ _ z=>z))));obtain⟨rfl,z⟩:=z;unfold callWith;refine wpAny_bind (wpAny_holding (wpAny_mono z (λa s2 z2=>wpAny_bind (wpAny_standAt ?_)) λ_ _ z=>z));obtain⟨apos,akw⟩:=a;obtain⟨ek,zl,gC,⟨mN,gN,eI⟩,T,gI,z2⟩:=z2;obtain rfl:akw = []:=ek;obtain⟨hp2,g,d,tk,os⟩:=s2;simp only[hp];refine wpAny_bind (wpAny_keeperOf_exc gC ?_);refine wpAny_bind (zqu Fn hBn F T gC gN eI gI cI zl λh' e mk=>wpAny_mono (z2 h' e mk) (λr s3 y=>?_) λ_ _ y=>y);obtain⟨rfl,gC3,⟨t,od,ge⟩,y⟩:=y;exact⟨rfl,wpAny_bind (wpAny_holding (wpAny_point (wpAny_pure ⟨e,t,od,rfl,gC3,ge,y⟩)))⟩
end
end PySem
namespace L2
open PySem PySem.Spec PyProof.Rows
def zbr(K:PySem.W.Frag)(C:Addr)(bmB:List Value)(newId:String)(fI:Addr):Bool:=match K.lookup C with
 |some ⟨.type "type",_,.cls cd,sl⟩=>(match cd.mro,sl.toList with
  |.ref C'::bm,[_,_,_,_,some (.builtin n),_]=>C' == C && n == newId && !cd.hasDel && cd.hasDict && PySem.W.tailIn K bmB bm && PySem.W.nsOkIn K cd.ns && PySem.W.nsIn K cd.ns "__init__" == some (some (.ref fI))
  |_,_=>false)
 |_=>false
theorem zou{K:PySem.W.Frag}{h:Heap}{N:Addr}{m:Str->Option Value}{n:Str}{v:Value}(X:K.In h)(G:h.Ns N m)(e:PySem.W.nsIn K N n=some (some v)):m n=some v:=by
 obtain⟨o,es,ep,ho,hd,_,hf⟩:=G;unfold PySem.W.nsIn at e
 split at e
 ·next cc dd es' n' sl z=>
  have y:=X _ _ z;rw[ho]at y
  cases y
  cases hd
  split at e
  ·next en he=>
   cases e;rw[<-hf];unfold nsFind findBy;rw[<-Array.find?_toList,he];rfl
  ·split at e <;> cases e
 ·cases e
theorem zrz{K:PySem.W.Frag}{C fI:Addr}{bmB:List Value}{newId:String}(q:zbr K C bmB newId fI=true):
  ∃nm qn N bs bm sn sub ab col dd k0 k1 k2 k3 k5,K.lookup C=some (excClassObj nm qn C N bs bm true sn sub ab col dd k0 k1 k2 k3 k5 newId)/\PySem.W.nsOkIn K N=true/\PySem.W.nsIn K N "__init__" = some (some (.ref fI))/\PySem.W.tailIn K bmB bm=true:=by
 unfold zbr at q
 split at q
 ·next dd cd sl ho=>
  split at q
  ·next C' bm k0 k1 k2 k3 n k5 hm hs=>
   simp only[Bool.and_eq_true,beq_iff_eq,Bool.not_eq_true']at q;obtain⟨⟨⟨⟨⟨⟨rfl,rfl⟩,z1⟩,zd⟩,z2⟩,z3⟩,z4⟩:=q;obtain⟨nm,bs,mro,ns,qn,hd,sn,sub,ab,col,del⟩:=cd;obtain⟨l⟩:=sl;dsimp only at hm z1 z3 z4 hs zd;subst hm z1 hs zd;exact⟨nm,qn,ns,bs,bm,sn,sub,ab,col,dd,k0,k1,k2,k3,k5,ho,z3,z4,z2⟩
  ·cases q
 ·cases q
theorem zqx{K:PySem.W.Frag}{h:Heap}{C fI:Addr}{bmB:List Value}{newId:String}(X:K.In h)(q:zbr K C bmB newId fI=true):
  ∃nm qn N bs bm sn sub ab col dd k0 k1 k2 k3 k5 mN,h.get? C=some (excClassObj nm qn C N bs bm true sn sub ab col dd k0 k1 k2 k3 k5 newId)/\h.Ns N mN/\mN "__init__" = some (.ref fI)/\OwnTail h bmB bm:=by
 obtain⟨nm,qn,ns,bs,bm,sn,sub,ab,col,dd,k0,k1,k2,k3,k5,ho,z3,z4,z2⟩:=zrz q;have G:=Heap.Ns.of_isNs (PySem.W.isNs_of_in X z3);exact⟨nm,qn,ns,bs,bm,sn,sub,ab,col,dd,k0,k1,k2,k3,k5,_,X _ _ ho,G,zou X G z4,PySem.W.tail_of_in X z2⟩
section
variable {X:Cx}{pins:List (Addr×Obj)}{σ:St}{H:Hp}{s:Shared}
theorem zi1{M:Model}{A:Around}{E:Value->Shared->Prop}{Q:Value->Shared->Prop}{i:Nat}{x:Str}{pos:Pos}{v:V}(I:Inv X pins σ H s)(hN:X.N[i]?=some x)(hσ:σ[i]?=some (some v))(hv:Vis X.env.scope x)(h:∀u,RelV v u->Q u s)(hd:(x ==("__debug__" : Str))=false)(hcd:(x ==("__classdict__" : Str))=false):
  wpAny M A (eval (.Name x pos) X.env) Q E s:=by
 obtain⟨m,hn,hl⟩:=I.loc;obtain⟨u,r,l⟩:=hl i x v hN hσ hv;rcases l with⟨hk,hm⟩ |⟨hk,c,hc,hcell⟩
 ·exact wpAny_Name (wpAny_loadName_local I.ok.kind hk hn hm (h u r)) hd
 ·rcases hk with hk|hk
  ·exact wpAny_Name (wpAny_loadName_cell I.ok.kind hk hc hcell (h u r)) hd
  ·exact wpAny_Name (wpAny_loadName_free I.ok.kind hk hc hcell (h u r) hcd) hd
theorem Inv.track{b:Addr}{o:HO}(I:Inv X pins σ H s)(hn:H b=none)(h0:X.s₀.heap.get? b=none)(hl:b≠X.env.locals)(hc:∀x c,X.env.cells.lookup x=some c->c≠b)(hp:∀p∈X.pn++pins,p.1≠b)(ok:ObjOk X.prog X.w (upd H b o) s.heap b o):Inv X pins σ (upd H b o) s:=by
 have up:∀c u,H c=some u->upd H b o c=some u:=λc u e=>by rw[zn (z9 e hn)];exact e
 refine⟨I.ok,I.os,I.bare,⟨I.base.keep,I.base.slot,λc u e n hx=>?_,I.base.there,λc xs e=>up _ _ (I.base.tups c xs e),λc u v e=>up _ _ (I.base.frzs c u v e),λc ps e=>?_⟩,I.loc,I.cell,?_,λx c e=>?_,λp q=>?_,λc u e=>?_,I.len⟩
 ·rw[zn (λz=>by rw[z,h0]at e;cases e)];exact I.base.free c u e n hx
 ·obtain⟨m,z⟩:=I.base.tbls c ps e;exact⟨m,up _ _ z⟩
 ·rw[zn (Ne.symm hl)];exact I.free
 ·rw[zn (hc x c e)];exact I.freeC x c e
 ·obtain⟨z1,z2,z3⟩:=I.pin p q;exact⟨z1,by rw[zn (hp p q)];exact z2,z3⟩
 ·by_cases z:c=b
  ·subst z;rw[zj]at e
   cases e;exact ok
  ·rw[zn z]at e;exact(I.hok c u e).stay (λ_ _ _ q=>q) (λc q=>up _ _ q) (λc xs q=>up _ _ q) λc _ _ q=>up _ _ q
def zlz(H:Hp)(b:Addr):Hp:=λc=>if c=b then none else H c
theorem jl{b c:Addr}(h:c≠b):zlz H b c=H c:=if_neg h
theorem Inv.untrack{b:Addr}{φ:Heap->Prop}(I:Inv X pins σ H s)(hb:H b=some (.ext φ))(h0:X.s₀.heap.get? b=none):Inv X pins σ (zlz H b) s:=by
 have ne:∀c u,H c=some u->(∀ψ,u ≠ .ext ψ)->c≠b:=λc u e n z=>by rw[z,hb]at e;cases e;exact n _ rfl
 have off:∀c,H c=none->zlz H b c=none:=λc e=>by unfold zlz;split <;> first|rfl|exact e
 refine⟨I.ok,I.os,I.bare,⟨I.base.keep,I.base.slot,λc u e n hx=>off _ (I.base.free c u e n hx),I.base.there,λc xs e=>?_,λc u v e=>?_,λc ps e=>?_⟩,I.loc,I.cell,off _ I.free,λx c e=>off _ (I.freeC x c e),λp q=>?_,λc u e=>?_,I.len⟩
 ·have:=I.base.tups c xs e;rw[jl (ne c _ this λ_=>by simp)];exact this
 ·have:=I.base.frzs c u v e;rw[jl (ne c _ this λ_=>by simp)];exact this
 ·obtain⟨m,z⟩:=I.base.tbls c ps e;exact⟨m,by rw[jl (ne c _ z λ_=>by simp)];exact z⟩
 ·obtain⟨z1,z2,z3⟩:=I.pin p q;exact⟨z1,off _ z2,z3⟩
 ·have e':H c=some u:=by
   unfold zlz at e
   split at e
   ·cases e
   ·exact e
  exact(I.hok c u e').stay (λ_ _ _ q=>q) (λc q=>by rw[jl (ne c _ q λ_=>by simp)];exact q) (λc xs q=>by rw[jl (ne c _ q λ_=>by simp)];exact q) λc _ _ q=>by rw[jl (ne c _ q λ_=>by simp)];exact q
end
def jm(C t:Addr)(od:Option Addr):Obj:={ cls:=.ref C,dict:=od,data:=.fields #[.ref t,.none,.none,.none,.bool false,.none] }
def zhe(C t:Addr)(od:Option Addr)(a:Addr):HO:=.ext λh=>h.get? a=some (jm C t od)
theorem zkh{P:Program}{w:World}{H:Hp}{h:Heap}{C t a:Addr}{od:Option Addr}(g:h.get? a=some (jm C t od)):ObjOk P w H h a (zhe C t od a):=⟨g,⟨_,g⟩,λ_ _ z k=>k _ z⟩
structure XI(X:Cx)(σ:St)(H:Hp)(s:Shared)(e C t:Addr)(od:Option Addr)(mA:Str->Option Value)(c:Nat):Prop where
 I:Inv X [] σ H s
 tr:H e=some (zhe C t od e)
 no:od=none->∀n,mA n=none
 ns:∀d,od=some d->d≠e/\s.heap.Ns1 d mA/\FpOk X [] H d
 few:∃ks,Within mA ks/\ks.length<=c
structure zl0(K:PySem.W.Frag)(C fI:Addr)(fs:List Str):Prop where
 cls:zbr K C [.type "ValueError",.type "Exception",.type "BaseException",.type "object"] "ValueError.__new__" fI=true
 sa:PySem.W.findIn K (.ref C) "__setattr__" = some (some (.builtin "object.__setattr__"))
 at_:∀f∈fs,PySem.W.findIn K (.ref C) f=some none
section
variable {X:Cx}{σ:St}{H:Hp}{s:Shared}{e C t fI:Addr}{od:Option Addr}{mA:Str->Option Value}{fs:List Str}{c:Nat}
theorem XI.ob(x:XI X σ H s e C t od mA c):s.heap.get? e=some (jm C t od):=(x.I.hok e _ x.tr).1
theorem XI.inst(x:XI X σ H s e C t od mA c):s.heap.Inst e C mA:=by
 refine⟨_,x.ob,rfl,(λc z=>by cases z),?_⟩
 cases h:od with
 |none=>exact .inl ⟨by simp[jm],x.no h⟩
 |some d=>exact .inr ⟨d,rfl,(x.ns d h).1,(x.ns d h).2.1⟩
theorem zhf(x:XI X σ H s e C t od mA c)(K:zl0 X.K C fI fs)(hc9:c<=900){f:Str}{j:Nat}{n:Int}{p1 p2 p3 p4:Pos}(hf:f∈fs)(h0:σ[0]?=some (some (.ref e)))(hj:σ[j]?=some (some (.int n)))(N0:X.N[0]?=some ("self" : Str))(Nj:X.N[j]?=some f)(V0:Vis X.env.scope "self")(Vj:Vis X.env.scope f)
  (d1:(f ==("__debug__" : Str))=false) (d2:(f ==("__classdict__" : Str))=false) (hs:swapsWith (.Name f p3) (some (.Attribute (.Name "self" p1) f p2)) p4.line X.env=pure false) :
  wpAny (model X.prog X.w) X.A (exec (.Assign [.Attribute (.Name "self" p1) f p2] (.Name f p3) p4) X.env)
   (λfl s'=>fl=.next/\∃H' d tk,XI X σ H' s' e C t (some d) (λy=>if y=f then some (.int n tk) else mA y) (c+1)/\But e H H') (λ_ _=>False) s:=by
 refine plainObj_wpAny_Assign_Attribute (zi1 x.I Nj hj Vj (λu ru=>zi1 x.I N0 h0 V0 (λov rv=>?_) (by decide) (by decide)) d1 d2) hs;obtain⟨tk,rfl⟩:=ru;obtain rfl:ov=.ref e:=rv;obtain⟨nm,qn,N,bs,bm,sn,sub,ab,col,dd,k0,k1,k2,k3,k5,mN,gC,gN,eI,T⟩:=zqx x.I.kIn K.cls;have ls:=PySem.W.looks_findIn (M:=model X.prog X.w) x.I.kIn K.sa;have lf:=PySem.W.looks_findIn (M:=model X.prog X.w) x.I.kIn (K.at_ f hf);obtain⟨ks,few,le⟩:=x.few;have xo:=x;obtain⟨hp,g,dr,tks,os⟩:=s;refine zqv (F.store_ValueError) T gC ls lf x.inst (λh' tk' z=>⟨rfl,?_⟩) few (by omega);obtain⟨zi,zk,zo⟩:=z;obtain⟨o1,g1,c1,c2,c3,dx,ed,e1,e2⟩:=zo _ x.ob;have eo:o1=jm C t (some dx):=by
  obtain⟨a1,a2,a3,a4⟩:=o1;simp only[jm]at c1 c2 c3;subst c1 c2 c3 ed;rfl
 subst eo;obtain⟨o2,g2,_,_,dc⟩:=zi;have:jm C t (some dx)=o2:=Option.some.inj (g1.symm.trans g2);subst this;have nsx:dx≠e/\h'.Ns1 dx (λy=>if y=f then some (.int n tk) else mA y):=by
  rcases dc with⟨z,_⟩ |⟨d',z,z1,z2⟩
  ·cases z
  ·cases z;exact⟨z1,z2⟩
 have few':∃ks',Within (λy=>if y=f then some (Value.int n tk) else mA y) ks'/\ks'.length<=c+1:=⟨f::ks,Within.cons f _ few,by rw[List.length_cons];omega⟩
 cases hd:od with
 |none=>
  subst hd;have yl:=e2 rfl;have hn:(upd H e (zhe C t (some dx) e)) dx=none:=by rw[zn nsx.1];exact x.I.hok.fresh yl
  refine⟨_,dx,tk,⟨x.I.write (x:=e) (e:=e) (t':=tk') (by rw[x.tr];exact True.intro) (.inl rfl) (λb u nb gb=>zk b u nb (λo0 dy q1 q2=>by rw[x.ob]at q1;cases q1;cases q2) gb) ⟨_,g1⟩ (zkh g1),zj,(λz=>nomatch z),λd z=>?_,few'⟩,But.write⟩
  cases z;exact⟨nsx.1,nsx.2,x.I.fpOk yl hn⟩
 |some d=>
  subst hd;have ee:=e1 d rfl;subst ee;obtain⟨n1,n2,fp⟩:=x.ns dx rfl;refine⟨H,dx,tk,⟨fp.inv (t':=tk') x.I λb o nb gb=>?_,x.tr,(λz=>nomatch z),λd' z=>?_,few'⟩,But.refl _ _⟩
  ·by_cases q:b=e
   ·subst q;rw[x.ob]at gb
    cases gb;exact g1
   ·exact zk b o q (λo0 dy q1 q2=>by rw[x.ob]at q1;cases q1;cases q2;exact nb) gb
  ·cases z;exact⟨nsx.1,nsx.2,fp⟩
end
def zov(fs:List Str)(ns:List Int):List (Str×V):=(fs.zip ns).map λp=>(p.1,V.int p.2)
def zki(P:Program)(w:World)(outer:List Env)(H:Hp)(s s':Shared)(e C t:Addr)(fv:List (Str×V)):Prop :=
 ∃d H',s'.os=s.os/\AllBare s'.gens/\Un (frs outer) [] H H' s.heap s'.heap/\HOk P w H' s'.heap/\H' e=some (zhe C t (some d) e)/\H' d=some (.xd fv)/\But e H H'/\d≠e/\H d=none
structure zft(P:Program)(w:World)(K:PySem.W.Frag)(mg:Str->Option Value)(base:Heap)(k:Nat)(C fI:Addr)(fs:List Str):Prop where
 run:∀(A:Around) (outer:List Env) (s:Shared) (H:Hp) (e t:Addr) (ns:List Int) (us:List Value),Room k A->Env0 P w K mg base A outer s H->H e=some (zhe C t none e)->Vals (ns.map V.int) us->ns.length=fs.length ->
  codeAny (model P w) A (.call (.ref fI) ⟨.ref e::us,[]⟩) (λr s'=>r=.ok (.ret .none)/\zki P w outer H s s' e C t (zov fs ns)) s
section
variable {P:Program}{w:World}{K:PySem.W.Frag}{mg:Str->Option Value}{base:Heap}{k:Nat}{C fI:Addr}{fd:FuncData}{qual:Str}{st:Stmt}
theorem zt6{X:Cx}{σ:St}{H:Hp}{s:Shared}{e t d:Addr}{mA:Str->Option Value}{c:Nat}{fv:List (Str×V)}(x:XI X σ H s e C t (some d) mA c)(hex:X.ex = [])(b:But e X.H₀ H)(hr:∀f,zpf (fv.lookup f) (mA f))(hok:HOk X.prog X.w X.H₀ X.s₀.heap):
  ∃H',Inv X [] σ H' s/\H' e=some (zhe C t (some d) e)/\H' d=some (.xd fv)/\But e X.H₀ H'/\d≠e/\X.H₀ d=none:=by
 obtain⟨ne,ns,f0,f1,f2,f3,f4,f5⟩:=x.ns d rfl;have y:X.s₀.heap.objs.size<=d:=by
  rcases f3 with z|z
  ·rw[hex]at z;cases z
  ·exact z
 refine⟨_,x.I.track (b:=d) (o:=.xd fv) f0 (Heap.get?_none_of_le y) f1 f4 f5 ⟨mA,ns,hr⟩,by rw[zn ne.symm];exact x.tr,zj,λc o n q=>?_,ne,hok.fresh y⟩;have:=b c o n q;rw[zn (z9 this f0)];exact this
theorem zqy{N ps:List Str}(F:Fun K "__init__" qual st fI fd)(S:yb N ps (zc st))(hb:Binds K fd ps []){A:Around}{outer:List Env}{s:Shared}{H:Hp}{e t:Addr}{vs:List V}{us:List Value}{fv:List (Str×V)}(hr:Room (k+1) A)(e0:Env0 P w K mg base A outer s H)
  (r:Vals vs us) (hl:vs.length=ps.length)
  (body:∀cdv s1,Inv (vj CX0 P w K mg base N qual (zc st) fI cdv A outer s H E0) [] (qa N vs) H s1 ->
   wpAny (model P w) (A.deeper (envOfC qual (zc st) s.heap.objs.size fI cdv)) (execs (zh st) (envOfC qual (zc st) s.heap.objs.size fI cdv)) (λfl s'=>fl=.next/\∃H' d σ',Inv (vj CX0 P w K mg base N qual (zc st) fI cdv A outer s H E0) [] σ' H' s' /\
    H' e=some (zhe C t (some d) e)/\H' d=some (.xd fv)/\But e H H'/\d≠e/\H d=none) (λ_ _=>False) s1) :
  codeAny (model P w) A (.call (.ref fI) ⟨us,[]⟩) (λr s'=>r=.ok (.ret .none)/\zki P w outer H s s' e C t fv) s:=by
 have lu:us.length=ps.length:=by rw[<-r.length];exact hl
 have KX:K.In s.heap:=e0.mod.kin.keeps λb o e=>(e0.bs b o e).1;have bb:BindsTo s fd ⟨us,[]⟩ (ps.zip us):=by
  have:=hb s us KX (by rw[List.append_nil];exact lu);rw[List.append_nil]at this;exact this
 obtain⟨oc,od,kV,doc,pm,an,cdv,ct,osl,rfl,lk,hcd⟩:=F.ex;have lim:s.heap.NoLimit:=e0.mod.nolimit.keeps λb o e=>(e0.bs b o e).1;have knd:∀y∈ps.zip us,(zc st).names.lookup y.1=some .local\/((zc st).names.lookup y.1=some .cell/\((cellsFrom (s.heap.objs.size+1) (zc st).names []).lookup y.1).isSome=true):=λ⟨n,v⟩ hy=>by
  rcases S.par n (List.of_mem_zip hy).1 with z|z
  ·exact .inl z
  ·exact .inr ⟨z,PySem.W.cellsFrom_some _ _ _ (.inl z)⟩
 refine codeAny_call_function hr.depth (KX _ _ lk) rfl S.co S.gen rfl (PySem.W.codeRec_of KX hcd) (bb _ _ _ _ ?_);refine wpAny_newFunctionEnv_cells S.kind knd λenv he s1 x=>?_;subst he;refine⟨lim.keeps x.toInCall.keep,codeAny_func ?_⟩;have I:Inv (vj CX0 P w K mg base N qual (zc st) fI cdv A outer s H E0) [] (qa N vs) H s1:=zbf S hr.hd e0 hl r x;refine wpAny_mono (body cdv s1 I) (λfl s' z=>?_) λ_ _ z=>z.elim;obtain⟨rfl,H',d,σ',J,r1,r2,r3,r4,r5⟩:=z;exact⟨rfl,d,H',J.os,J.bare,J.base,J.hok,r1,r2,r3,r4,r5⟩
theorem zow{a b:Str}{p1 p2 p3 p4 q1 q2 q3 q4:Pos}(F:Fun K "__init__" qual st fI fd)(S:yb ["self",a,b] ["self",a,b] (zc st))(hb:Binds K fd ["self",a,b] [])(XC:zl0 K C fI [a,b])(ab:a≠b)
  (eb:zh st = [.Assign [.Attribute (.Name "self" p1) a p2] (.Name a p3) p4,.Assign [.Attribute (.Name "self" q1) b q2] (.Name b q3) q4])
  (da:(a ==("__debug__" : Str))=false:=by decide) (da2:(a ==("__classdict__" : Str))=false:=by decide) (db:(b ==("__debug__" : Str))=false:=by decide) (db2:(b ==("__classdict__" : Str))=false:=by decide)
  (sa:∀L cd,swapsWith (.Name a p3) (some (.Attribute (.Name "self" p1) a p2)) p4.line (envOfC qual (zc st) L fI cd)=pure false:=by intro L cd;rfl)
  (sb:∀L cd,swapsWith (.Name b q3) (some (.Attribute (.Name "self" q1) b q2)) q4.line (envOfC qual (zc st) L fI cd)=pure false:=by intro L cd;rfl):zft P w K mg base (k+1) C fI [a,b]:=⟨λA outer s H e t ns us hr e0 tr rv hl=>by
 match ns,hl,rv with
 |[x,y],_,rv=>
  refine zqy (vs:=[.ref e,.int x,.int y]) F S hb hr e0 (.cons rfl rv) rfl λcdv s1 I=>?_;have V:∀z∈([("self" : Str),a,b]:List Str),Vis (zc st) z:=λz hz=>by
   rcases S.par z hz with q|q
   ·exact .inl q
   ·exact .inr (.inl q)
  have x0:XI (vj CX0 P w K mg base ["self",a,b] qual (zc st) fI cdv A outer s H E0) (qa ["self",a,b] [.ref e,.int x,.int y]) H s1 e C t none (λ_=>none) 0:=⟨I,tr,λ_ _=>rfl,(λ_ z=>nomatch z),[],Within.nil,Nat.le_refl _⟩
  rw[eb];refine wpAny_execs_cons (wpAny_mono (zhf (j:=1) (n:=x) x0 XC (by decide) List.mem_cons_self rfl rfl rfl rfl (V _ (.head _)) (V _ (.tail _ (.head _))) da da2 (sa _ _)) (λfl s2 z=>?_) λ_ _ z=>z);obtain⟨rfl,H1,d1,t1,x1,b1⟩:=z;refine wpAny_execs_cons (wpAny_mono (zhf (j:=2) (n:=y) x1 XC (by decide) (.tail _ (.head _)) rfl rfl rfl rfl (V _ (.head _)) (V _ (.tail _ (.tail _ (.head _)))) db db2 (sb _ _)) (λfl s3 z=>?_) λ_ _ z=>z);obtain⟨rfl,H2,d2,t2,x2,b2⟩:=z;refine wpAny_execs_nil ⟨rfl,?_⟩
  suffices hr:∀f,zpf ((zov [a,b] [x,y]).lookup f) ((λz=>if z=b then some (Value.int y t2) else (λz=>if z=a then some (Value.int x t1) else none) z) f) by
   obtain⟨H',J,r1,r2,r3,r4,r5⟩:=zt6 (fv:=zov [a,b] [x,y]) x2 rfl (b1.trans b2) hr e0.hok;exact⟨H',d2,_,J,r1,r2,r3,r4,r5⟩
  intro f
  ·simp only[zov,List.zip_cons_cons,List.zip_nil_right,List.map_cons,List.map_nil,List.lookup_cons]
   by_cases c2:f=b
   ·subst c2;rw[if_pos rfl,show(f == a)=false by simpa using ab.symm,show(f == f)=true by simp];exact⟨t2,rfl⟩
   ·rw[if_neg c2]
    by_cases c1:f=a
    ·subst c1;rw[if_pos rfl,show(f == f)=true by simp];exact⟨t1,rfl⟩
    ·rw[if_neg c1,show(f == a)=false by simpa using c1,show(f == b)=false by simpa using c2];exact True.intro⟩
end
section
variable {P:Program}{w:World}{K:PySem.W.Frag}{mg:Str->Option Value}{base:Heap}{N:List Str}{qual:Str}{scope:Scope}{f:Addr}{cd:Value}{A:Around}{outer:List Env}{s:Shared}{H:Hp}{E:XK}
theorem zt7{s1:Shared}{H1:Hp}{pins:List (Addr×Obj)}{σ:St}{C fI:Addr}{k:Nat}{x:Str}{fs:List Str}{np cpos pos:Pos}{e:Expr}{es:List Expr}{Q:Flow->Shared->Prop}{R:List Int->Hp->Prop}
  (I:Inv (vj (CXk P w) P w K mg base N qual scope f cd A outer s H E) pins σ H1 s1) (hh:A.handled=none) (hr:Room (k+1) (A.deeper (envOfC qual scope s.heap.objs.size f cd))) (hg:Gl (vj (CXk P w) P w K mg base N qual scope f cd A outer s H E) x) (hm:mg x=some (.ref C))
  (XC:zl0 K C fI fs) (IO:zft P w K mg base k C fI fs) {oI:Obj} (gI:K.lookup fI=some oI) (cI:oI.cls=.type "function")
  (ha:wpAny (model P w) (A.deeper (envOfC qual scope s.heap.objs.size f cd)) (spliced (backTo cpos (starEach (e::es) (envOfC qual scope s.heap.objs.size f cd))))
   (λus s2=>∃ns H2,Inv (vj (CXk P w) P w K mg base N qual scope f cd A outer s H E) pins σ H2 s2/\Vals (ns.map V.int) us/\Same H1 H2/\ns.length=fs.length/\R ns H2) (λ_ _=>False) s1)
  (hE:∀ns H2 H5 d,R ns H2->Same H2 H5->H5 d=some (.xd (zov fs ns))->E (.ref C) (some d) H5)
  (he:starEach (e::es) (envOfC qual scope s.heap.objs.size f cd)=(false,eval e (envOfC qual scope s.heap.objs.size f cd))::starEach es (envOfC qual scope s.heap.objs.size f cd))
  (hpl:(backTo cpos (starEach es (envOfC qual scope s.heap.objs.size f cd))).any (·.1)=false) (few:fs.length<=100) (hdb:(x ==("__debug__" : Str))=false:=by decide) :
  wpAny (model P w) (A.deeper (envOfC qual scope s.heap.objs.size f cd)) (exec (.Raise (some (.Call (.Name x np) (e::es) [] cpos)) none pos) (envOfC qual scope s.heap.objs.size f cd)) Q (vj (CXk P w) P w K mg base N qual scope f cd A outer s H E).xe s1:=by
 obtain⟨nm,qn,Nn,bs,bm,sn,sub,ab,col,dd,k0,k1,k2,k3,k5,lC,z3,z4,z2⟩:=zrz XC.cls;refine zot (C:=C) (nm:=nm) (q:=qn) (N:=Nn) (bs:=bs) (bm:=bm) (hdct:=true) (sn:=sn) (sub:=sub) (ab:=ab) (col:=col) (dd:=dd) (k0:=k0) (k1:=k1) (k2:=k2) (k3:=k3) (k5:=k5) (newId := "ValueError.__new__") (fI:=fI) (oI:=oI)
  PySem.F.excBase_ValueError rfl PySem.F.excBase_ValueError ((PySem.W.tail_of_in I.kIn z2).hasType rfl) hh (by rw[he];exact hpl) cI (kb I hg hm ⟨rfl,?_⟩ hdb)
 have eb:backTo cpos (starEach (e::es) (envOfC qual scope s.heap.objs.size f cd))=(false,eval e (envOfC qual scope s.heap.objs.size f cd))::backTo cpos (starEach es (envOfC qual scope s.heap.objs.size f cd)):=by rw[he];rfl
 rw[eb]at ha ⊢;refine Calls.evalArgs_plain (wpAny_mono ha (λus s2 ⟨ns,H2,I2,rv,sm,ln,hR⟩=>?_) λ_ _ z=>z.elim);have lu:us.length=fs.length:=by rw[<-rv.length,List.length_map,ln]
 have G:=Heap.Ns.of_isNs (PySem.W.isNs_of_in I2.kIn z3);refine⟨rfl,by rw[sizeLine_eq];show us.length<=_;omega,I2.kIn _ _ lC,⟨_,G,zou I2.kIn G z4⟩,PySem.W.tail_of_in I2.kIn z2,I2.kIn _ _ gI,λh' a mk=>?_⟩;obtain⟨t,ge,_,_⟩:=mk.there;have J:=I2.kept (t':=s2.toks) mk.keeps;have n0:s.heap.get? a=none:=by
  cases z:s.heap.get? a with
  |none=>rfl
  |some o=>
   obtain⟨o',e'⟩:=I2.base.there a o z (by intro y;cases y);rw[mk.new]at e'
   cases e'
 have n2:H2 a=none:=by
  cases z:H2 a with
  |none=>rfl
  |some u=>
   obtain⟨o,ho⟩:=(I2.hok a u z).ex;rw[mk.new]at ho
   cases ho
 have J2:Inv (vj (CXk P w) P w K mg base N qual scope f cd A outer s H E) pins σ (upd H2 a (zhe C t none a)) { s2 with heap:=h' }:=by
  refine J.track n2 n0 (λz=>?_) (λy c q z=>?_) (λp q z=>?_) (zkh ge)
  ·obtain⟨m,⟨o,_,_,g,_⟩,_⟩:=I2.loc;rw[<-z,mk.new]at g
   cases g
  ·obtain⟨v,o,g,_⟩:=I2.cell y c q;rw[z,mk.new]at g
   cases g
  ·have:=(I2.pin p q).1;rw[z,mk.new]at this
   cases this
 refine wpAny_call (codeAny_mono (IO.run _ _ _ _ a t ns us (hr.make C us []) (J2.env0.make C us []) zj rv ln) λr s3 z=>?_);obtain⟨rfl,d,H4,os,bare,un,hok,r1,r2,r3,r4,r5⟩:=z;have J3:=J2.call' os un hok bare (λb hb=>nomatch hb);have ob:s3.heap.get? a=some (jm C t (some d)):=(J3.hok a _ r1).1;have J4:=J3.untrack r1 n0;have sm5:Same H2 (zlz H4 a):=λb o q=>by
  have nb:b≠a:=λz=>by rw[z,n2]at q;cases q
  rw[jl nb];exact r3 b o nb (by rw[zn nb];exact q)
 refine⟨rfl,J3.kIn _ _ lC,⟨t,some d,ob⟩,?_⟩;exact zrx J4 (.inr ⟨_,_,ob,⟨rfl,rfl⟩,rfl,rfl⟩) n0 (if_pos rfl) (hE ns H2 _ d hR sm5 (by rw[jl r4];exact r2))
def zfu(ex:EX)(x:Str)(fs:List Str)(ta:DTF):DTS:=λ_ σ=>ta σ λds=>∃ns:List Int,ds=ns.map PyData.int/\ns.length=fs.length/\ex (x,fs.zip ns)
theorem zi2{ex:EX}{x:Str}{C fI:Addr}{k:Nat}{fs:List Str}{np cpos pos:Pos}{e:Expr}{es:List Expr}{ta:DTF}(hE:∀c od H',XE K H ex c od H'->E c od H')(hh:A.handled=none)(hr:Room (k+1) (A.deeper (envOfC qual scope s.heap.objs.size f cd)))(hg:Gl (vj (CXk P w) P w K mg base N qual scope f cd A outer s H E) x)(hm:mg x=some (.ref C))(hn:PySem.W.nsIn K mainGlobals x=some (some (.ref C)))
  (XC:zl0 K C fI fs) (IO:zft P w K mg base k C fI fs) {oI:Obj} (gI:K.lookup fI=some oI) (cI:oI.cls=.type "function") (few:fs.length<=100) (ha:DA (vj (CXk P w) P w K mg base N qual scope f cd A outer s H E).nox (e::es) ta)
  (he:starEach (e::es) (envOfC qual scope s.heap.objs.size f cd)=(false,eval e (envOfC qual scope s.heap.objs.size f cd))::starEach es (envOfC qual scope s.heap.objs.size f cd):=by rfl)
  (hpl:(backTo cpos (starEach es (envOfC qual scope s.heap.objs.size f cd))).any (·.1)=false:=by rfl) (hdb:(x ==("__debug__" : Str))=false:=by decide) :
  DSX (vj (CXk P w) P w K mg base N qual scope f cd A outer s H E) (.Raise (some (.Call (.Name x np) (e::es) [] cpos)) none pos) (zfu ex x fs ta) :=
 ⟨λpins s1 σ H1 σD Dn I ok qq=>zt7 (R:=λns H2=>Same H1 H2/\ns.length=fs.length/\ex (x,fs.zip ns)) I hh hr hg hm XC IO gI cI (wpAny_mono (ha.run cpos pins s1 σ H1 _ σD _ (I.wish _) ok qq) (λus s2 ⟨vs,H2,ds,I2,rv,sm,rp,ns,e1,e2,e3⟩=>by
   subst e1;have:=Reps.of_ints rp;subst this;exact⟨ns,H2,I2.unwish,rv,sm,e2,sm,e2,e3⟩) λ_ _ z=>z) (λns H2 H5 d ⟨sm,ln,hx⟩ sm5 hd=>hE _ _ _ ⟨(x,fs.zip ns),C,rfl,hn,ok.same.trans (sm.trans sm5),.inr ⟨d,rfl,hd⟩,hx⟩) he hpl few hdb⟩
end
end L2
namespace L2
open PySem PySem.Spec PyProof.Rows PySem.W
section
variable {prog:Program}{w:World}{A:Around}{E:Value->Shared->Prop}{s:Shared}{K:Frag}{x C:Addr}{ox:Obj}{od:Option Obj}{name:Str}{v:Value}
theorem zi3{tk:Tok}{R:Result->Shared->Prop}(X:K.In s.heap)(I:InstAt s.heap x ox C od)(hb:mroIn K C (.type "BaseException")=some true)(hf:findObj K C od name=some (.value v))(q:R (.ok (.ret v)) s):
  codeAny (model prog w) A (.call (.builtin "BaseException.__getattribute__") ⟨[.ref x,.str name tk],[]⟩) R s:=by
 refine codeAny_call_builtin PySem.F.attr_ValueError.ga.plain PySem.F.entry_bexc_ga (zew X I hb ?_);have L0:=I.type (M:=model prog w);have L1:=looks_find (M:=model prog w) X I hf;obtain⟨hh,g,dr,t,os⟩:=s;unfold Builtin.«object.__getattribute__»
 repeat (any_goals (first|assumption|exact L0.at ‹_›|wp_step))
 refine wpAny_loadPart_at I.at_ (wpAny_pure ?_);rw[I.cls];refine wpAny_bind (L1.at ?_);exact wpAny_pure q
theorem zqz{expr:Bool}{Q:Value->Shared->Prop}(X:K.In s.heap)(I:InstAt s.heap x ox C od)(hga:findIn K (.ref C) "__getattribute__" = some (some (.builtin "BaseException.__getattribute__")))(hhk:findIn K (.ref C) "__getattr__" = some none)(hb:mroIn K C (.type "BaseException")=some true)
  (hf:findObj K C od name=some (.value v)) (hv:handedIn v=true) (q:Q v { s with toks:=s.toks+1 }):wpAny (model prog w) A (getAttr (.ref x) name expr) Q E s:=by
 have L0:=I.type (M:=model prog w);have L1:=looks_findIn (M:=model prog w) X hga;have L2:=looks_findIn (M:=model prog w) X hhk;obtain⟨hh,g,d,t,os⟩:=s;unfold getAttr getAttrBy;refine wpAny_bind (wpAny_mkText (wpAny_holding (wpAny_bind (L0.at (wpAny_bind (L1.at ?_))))));dsimp only;rw[if_neg (by rw[show(Value.builtin "BaseException.__getattribute__" == Value.builtin "object.__getattribute__")=false by decide +kernel,Bool.and_false];decide)];unfold getAttrByItsOwn hookBefore;rw[if_pos (by rfl)];refine wpAny_bind (L2.at (wpAny_bind (wpAny_attempt (wpAny_holding ?_))));unfold callGetattribute;rw[if_neg (by rw[show onTheHeap (Value.builtin "BaseException.__getattribute__")=false by decide +kernel,Bool.and_false];decide)];unfold boundAndCalled;refine wpAny_bind (wpAny_of_eq (PySem.F.attr_ValueError.ga.bind (.ref x)) ?_);refine wpAny_call (zi3 (s:=⟨hh,g,d,t+1,os⟩) X I hb hf ?_);exact handed_on hv q
end
section
variable {X:Cx}{pos p:Pos}
def zkj(i:Nat)(f:Str):DTE:=λσ Q=>match σ[i]? with
 |some (some (.exc x))=>(match x.2.lookup f with
  |some n=>Q (.int n)
  |none=>False)
 |_=>False
theorem zkk(f:Str):∀fs:List (Str×Int),(fs.map λp=>(p.1,V.int p.2)).lookup f=(fs.lookup f).map V.int
 |[]=>rfl
 |(a,n)::fs=>by
  rw[List.map_cons,List.lookup_cons,List.lookup_cons]
  cases f == a with
  |true=>rfl
  |false=>exact zkk f fs
def zox(K:Frag)(f:Str)(L:List Str):Prop:=∀nm∈L,∀C,nsIn K mainGlobals nm=some (some (.ref C))->XIs K C/\findIn K (.ref C) f=some none
theorem zca(i:Nat){x f:Str}{L:List Str}(hk:zox X.K f L)(hN:X.N[i]?=some x:=by rfl)(hvs:Vis X.env.scope x:=by first|exact Or.inl rfl|exact Or.inr (Or.inl rfl)|exact Or.inr (Or.inr rfl))
  (hd:(x ==("__debug__" : Str))=false:=by decide) (hcd:(x ==("__classdict__" : Str))=false:=by decide) (hb:attributeBase (.Name x p) f X.env (eval (.Name x p) X.env)=eval (.Name x p) X.env:=by rfl) :
  DE X (.Attribute (.Name x p) f pos) (λσ Q=>(∀y,σ[i]?=some (some (.exc y))->y.1∈L)/\zkj i f σ Q):=⟨λpins s σ H H₀ σD Q I ok q=>by
 obtain⟨hL,q⟩:=q;unfold zkj at q
 split at q
 ·next x' e'=>
  obtain⟨v,e1,a,C,od,rfl,hn,ha,hf⟩:=ok.exc e'
  split at q
  ·next n hl=>
   refine zpl hb (zi1 I hN e1 hvs (λu ru=>?_) hd hcd);obtain rfl:u=.ref a:=ru;obtain⟨Z,hz⟩:=hk _ (hL _ e') C hn;rcases hf with⟨z,_⟩ |⟨d,rfl,hx⟩
   ·rw[z]at hl;cases hl
   ·obtain⟨⟨oe,he,hc,hdi,vs,hfd⟩,_,_⟩:=I.hok _ _ ha;obtain⟨mA,nsd,rel⟩:=(show ObjOk X.prog X.w H s.heap d (.xd _) from I.hok _ _ hx)
    obtain⟨oo,go,lk⟩:=zk2 nsd;have J:InstAt s.heap a oe C (some oo):=⟨he,hc,by unfold notCls;rw[hfd],by rw[hdi];exact go⟩
    have r:=rel f;rw[zkk,hl]at r
    cases em:mA f with
    |none=>rw[em]at r;exact r.elim
    |some u=>
     rw[em]at r;obtain⟨tk,rfl⟩:=r;obtain⟨cd,hcl,_⟩:=jj Z.dct;refine zqz I.kIn J Z.ga Z.hk Z.bas (findObj_own Z.dct hz rfl (by rw[lk,em])) rfl ⟨.int n,H,.int n,I.tok _,⟨tk,rfl⟩,Same.refl _,.int,q⟩
  ·exact q.elim
 ·exact q.elim⟩
end
def zoy(P:Program)(w:World)(K:Frag)(mg:Str->Option Value)(base:Heap)(x:Str)(fs:List Str):Prop:=∃C fI od dt sl,mg x=some (.ref C)/\nsIn K mainGlobals x=some (some (.ref C))/\zl0 K C fI fs/\zft P w K mg base 1 C fI fs/\K.lookup fI=some ⟨.type "function",od,dt,sl⟩
end L2
namespace L2
open PySem PySem.Spec PyProof.Rows
section
variable {X:Cx}{a b c d:Expr}{ta tb tc td:DTE}{pos:Pos}
theorem zq3{i j:Int}{k l}{p1 p2:Pos}:DE X (.Dict [some (.Constant (.int i) k p1)] [.Constant (.int j) l p2] pos) (dC (.dict [(.int i,.int j)])):=⟨λpins s σ H H₀ σD Q I ok q=>
 thn (zqo (zoi (w4 (X:=X)) (w4 (X:=X)) zqn) rfl rfl (by simp) (by simp) pins s σ H (λv H'=>∃p,v=.ref p/\H p=none/\H'=upd (upd H p (.dK [])) p (.dK [(Sum.inl i,.int j)])) I (λp hp=>by
  refine⟨zj,[(Sum.inl i,.int j)],rfl,by simp,p,rfl,hp,rfl⟩)) λu s' ⟨v,H',I',r,p,e1,hp,e2⟩=>by
 subst e1 e2;obtain⟨o,J⟩:=I'.frzK zj;exact⟨.ref p,_,.dict _,J,r,λb z hb=>by rw[zn (z9 hb hp),zn (z9 hb hp),zn (z9 hb hp)];exact hb,.dic zj (.cons .int .nil),q⟩⟩
end
section
variable {prog:Program}{w:World}{A:Around}{R:Result->Shared->Prop}{s:Shared}{elt t1 i1 t2 i2:Expr}{f1 f2:List Expr}{scope:Scope}{pos:Pos}{it acc:Value}{env:Env}
abbrev LC2(elt t1 i1 t2 i2:Expr)(f1 f2:List Expr)(scope:Scope)(pos:Pos):Expr:=.ListComp elt [⟨t1,i1,f1,0⟩,⟨t2,i2,f2,0⟩] scope pos
theorem zvt(elt t1 i1 t2 i2:Expr)(f1 f2:List Expr)(scope:Scope)(pos:Pos)(it acc:Value)(env:Env):compTurn (LC2 elt t1 i1 t2 i2 f1 f2 scope pos) 0 it acc env=(do
  standAt i1.pos
  match <-pyNext it with
  |none=>pure (.done .next)
  |some v=>
   letOwnedTupleGo t1 it v
   assign t1 env v
   let mut ok:=true
   for c in f1 do
    if ok then ok <-isTrue c env (eval c env)
   if ok then
    let x <-eval i2 env
    standAt i2.pos
    let x <-foldedSetIterable i2 env x
    let _ <-runOwn (.compStart (LC2 elt t1 i1 t2 i2 f1 f2 scope pos) 1 (<-holding [x] (pyIter x)) acc env) env
   again (.compLoop (LC2 elt t1 i1 t2 i2 f1 f2 scope pos) 0 it acc env)):=by rfl
theorem zvu(elt t1 i1 t2 i2:Expr)(f1 f2:List Expr)(scope:Scope)(pos:Pos)(it acc:Value)(env:Env):compTurn (LC2 elt t1 i1 t2 i2 f1 f2 scope pos) 1 it acc env=(do
  standAt i2.pos
  match <-pyNext it with
  |none=>pure (.done .next)
  |some v=>
   letOwnedTupleGo t2 it v
   assign t2 env v
   let mut ok:=true
   for c in f2 do
    if ok then ok <-isTrue c env (eval c env)
   if ok then
    (do let _ <-call (.builtin "list.append") [acc,<-eval elt env])
   again (.compLoop (LC2 elt t1 i1 t2 i2 f1 f2 scope pos) 1 it acc env)):=by rfl
theorem zl1(I:Nat->Shared->Prop)
  (turn:∀n s,I n s->wpAny (model prog w) A (pyNext it) (λr s1=>match r with
   |none=>R (.ok .next) s1
   |some v=>wpAny (model prog w) A (letOwnedTupleGo t2 it v) (λ_ s1'=>wpAny (model prog w) A (assign t2 env v) (λ_ s2=>
     wpAny (model prog w) A (forIn f2 true λc r=>if r=true then do let ok <-isTrue c env (eval c env);pure (ForInStep.yield ok) else pure (ForInStep.yield r)) (λok s3=>
      if ok=true then wpAny (model prog w) A (eval elt env) (λx s4=>
       wpAny (model prog w) A (call (.builtin "list.append") [acc,x]) (λ_ s5=>∃m,m<n/\I m s5) (λ_ _=>False) s4) (λ_ _=>False) s3
      else ∃m,m<n/\I m s3) (λ_ _=>False) s2) (λ_ _=>False) s1') (λ_ _=>False) s1) (λ_ _=>False) s)
  (n:Nat) (h:I n s):codeAny (model prog w) A (.compLoop (LC2 elt t1 i1 t2 i2 f1 f2 scope pos) 1 it acc env) R s:=by
 refine codeAny_loop rfl I (λn s hI=>?_) n h;show wpAny _ A ((compTurn (LC2 elt t1 i1 t2 i2 f1 f2 scope pos) 1 it acc env).onRaise (λx=>do noteFrame x env;theTreesLotGoes x)) _ _ s;refine wpAny_noted ?_;rw[zvu];refine wpAny_bind (wpAny_standAt (wpAny_bind (wpAny_mono (turn n s hI) (λr s1 h1=>?_) λ_ _ h'=>h'.elim)))
 cases r with
 |none=>exact wpAny_pure h1
 |some v=>
  refine wpAny_bind (wpAny_mono h1 (λ_ s1' h1'=>?_) λ_ _ h'=>h'.elim);refine wpAny_bind (wpAny_mono h1' (λ_ s2 h2=>wpAny_bind (wpAny_mono h2 (λok s3 h3=>?_) λ_ _ h'=>h'.elim)) λ_ _ h'=>h'.elim)
  cases ok with
  |false=>exact wpAny_pure ⟨rfl,h3⟩
  |true=>exact wpAny_bind (wpAny_bind (wpAny_mono h3 (λx s4 h4=>wpAny_bind (wpAny_mono h4 (λ_ s5 h5=>wpAny_pure (wpAny_pure ⟨rfl,h5⟩)) λ_ _ h'=>h'.elim)) λ_ _ h'=>h'.elim))
theorem zt8(h0:codeAny (model prog w) A (.compLoop (LC2 elt t1 i1 t2 i2 f1 f2 scope pos) 1 it acc env) R s)
  (h:wpAny (model prog w) A (pyIter it) (λit' s'=>codeAny (model prog w) A (.compLoop (LC2 elt t1 i1 t2 i2 f1 f2 scope pos) 1 it' acc env) R s') (λ_ _=>False) s) :
  codeAny (model prog w) A (.compStart (LC2 elt t1 i1 t2 i2 f1 f2 scope pos) 1 it acc env) R s:=by
 refine codeAny_of_tree ?_;show wpAny _ _ ((compStart (LC2 elt t1 i1 t2 i2 f1 f2 scope pos) 1 it acc env).onRaise (λx=>do noteFrame x env;standAt theWindowsPlace)) _ _ s;refine wpAny_notedAt ?_;unfold compStart;show wpAny _ _ (ask >>= _) _ _ s;refine wpAny_bind (wpAny_askSetting (wpAny_ite ?_))
 split
 ·first
   |exact wpAny_bind (wpAny_pure (wpAny_pure (And.intro rfl h0)))
   |exact wpAny_pure (And.intro rfl h0)
 ·refine wpAny_bind (wpAny_rule ?_);show wpAny _ _ (standAt i2.pos >>= _) _ _ s;exact wpAny_bind (wpAny_standAt (wpAny_bind (wpAny_mono h (λit' s' h'=>wpAny_pure (And.intro rfl h')) λ_ _ x=>x.elim)))
theorem zl2(I:Nat->Shared->Prop)(hs:∀x,foldedSetIterable i2 env x=pure x)
  (turn:∀n s,I n s->wpAny (model prog w) A (pyNext it) (λr s1=>match r with
   |none=>R (.ok .next) s1
   |some v=>wpAny (model prog w) A (letOwnedTupleGo t1 it v) (λ_ s1'=>wpAny (model prog w) A (assign t1 env v) (λ_ s2=>
     wpAny (model prog w) A (forIn f1 true λc r=>if r=true then do let ok <-isTrue c env (eval c env);pure (ForInStep.yield ok) else pure (ForInStep.yield r)) (λok s3=>
      if ok=true then wpAny (model prog w) A (eval i2 env) (λx s4=>wpAny (model prog w) A (pyIter x) (λit2 s5=>
       codeAny (model prog w) A (.compStart (LC2 elt t1 i1 t2 i2 f1 f2 scope pos) 1 it2 acc env) (λr s6=>match r with|.ok _=>∃m,m<n/\I m s6|.error _=>False) s5) (λ_ _=>False) s4) (λ_ _=>False) s3
      else ∃m,m<n/\I m s3) (λ_ _=>False) s2) (λ_ _=>False) s1') (λ_ _=>False) s1) (λ_ _=>False) s)
  (n:Nat) (h:I n s):codeAny (model prog w) A (.compLoop (LC2 elt t1 i1 t2 i2 f1 f2 scope pos) 0 it acc env) R s:=by
 refine codeAny_loop rfl I (λn s hI=>?_) n h;show wpAny _ A ((compTurn (LC2 elt t1 i1 t2 i2 f1 f2 scope pos) 0 it acc env).onRaise (λx=>do noteFrame x env;theTreesLotGoes x)) _ _ s;refine wpAny_noted ?_;rw[zvt];refine wpAny_bind (wpAny_standAt (wpAny_bind (wpAny_mono (turn n s hI) (λr s1 h1=>?_) λ_ _ h'=>h'.elim)))
 cases r with
 |none=>exact wpAny_pure h1
 |some v=>
  refine wpAny_bind (wpAny_mono h1 (λ_ s1' h1'=>?_) λ_ _ h'=>h'.elim);refine wpAny_bind (wpAny_mono h1' (λ_ s2 h2=>wpAny_bind (wpAny_mono h2 (λok s3 h3=>?_) λ_ _ h'=>h'.elim)) λ_ _ h'=>h'.elim)
  cases ok with
  |false=>exact wpAny_pure ⟨rfl,h3⟩
  |true=>
   refine wpAny_bind (wpAny_mono h3 (λx s4 h4=>?_) λ_ _ h'=>h'.elim);refine wpAny_bind (wpAny_standAt ?_);rw[hs x];refine wpAny_bind (wpAny_pure (wpAny_bind (wpAny_holding (wpAny_mono h4 (λit2 s5 h5=>?_) λ_ _ h'=>h'.elim))));refine wpAny_bind (wpAny_runOwn ?_);refine codeAny_mono h5 λr s6 h6=>?_
   cases r with
   |ok f=>exact wpAny_pure ⟨rfl,h6⟩
   |error e=>exact h6.elim
end
section
variable {X:Cx}
def zc6(J:It)(D:Addr)(g:TG)(tt:TT)(wi2:TI)(g2:TG)(tt2:TT)(te:TE)(σ0:St)(H1:Hp)(Q:VK):Prop :=
 ∃W:Nat->Nat->St->Hp->Prop,(∃m,W 0 m σ0 (upd H1 D (.lst [])))/\∀i m σ H,W i m σ H ->
  (J.stop i H/\Q (.ref D) H)\/(J.go i H/\∀x H',J.yld i H x H'->g x σ H' λσ2 H2=>tt σ2 H2 λb H3=>
   if b=true then wi2 σ2 H3 λJ2 H4=>∃W2:Nat->Nat->St->Hp->Prop,(∃m2,W2 0 m2 σ2 H4)/\∀i2 n2 σ' H',W2 i2 n2 σ' H' ->
    (J2.stop i2 H'/\∃m',m' < m/\W (i+1) m' σ' H')\/(J2.go i2 H'/\∀x H5,J2.yld i2 H' x H5->g2 x σ' H5 λσ6 H6=>tt2 σ6 H6 λb H7=>
     if b=true then te σ6 H7 λy H8=>∃ys,H8 D=some (.lst ys)/\ys.length<sizeLine/\∃m',m' < n2/\W2 (i2+1) m' σ6 (upd H8 D (.lst (ys ++ [y])))
     else ∃m',m' < n2/\W2 (i2+1) m' σ6 H7)
   else ∃m',m' < m/\W (i+1) m' σ2 H3)
def zvv(k:Nat)(js:List Nat)(wi:TI)(g:TG)(tt:TT)(wi2:TI)(g2:TG)(tt2:TT)(te:TE):TE:=λσ H Q=>wi σ H λJ H1=>∀D,H1 D=none->zc6 J D g tt wi2 g2 tt2 te (xf k js σ) H1 Q
theorem zt9{elt t1 i1 t2 i2:Expr}{f1 f2:List Expr}{scope:Scope}{pos:Pos}{cl:List (Str×Addr)}{N':List Str}{C:Addr}{fp:List Addr}{s2:Shared}{H2:Hp}{g2:TG}{tt2:TT}{te:TE}{D:Addr}
  (hg:PG (yh X N' scope cl C fp s2 H2) t2 g2) (ht:PTs (yh X N' scope cl C fp s2 H2) f2 tt2) (he:PE (yh X N' scope cl C fp s2 H2) elt te)
  {pins:List (Addr×Obj)}{σ:St}{H:Hp}{s:Shared}{J:It}{fq:List Addr}{it:Addr}{tn:Nat->Heap->Prop}{W:Nat->Nat->St->Hp->Prop}{Z:St->Hp->Prop}{m0:Nat}
  (I:Inv (yh X N' scope cl C fp s2 H2) pins σ H s) (T:zf9 X.prog X.w X.K t2 J fq it tn) (st:tn 0 s.heap) (f:∀b∈fq,FpOk (yh X N' scope cl C fp s2 H2) pins H b) (w0:W 0 m0 σ H)
  (turn:∀i n σ' H',W i n σ' H'->(J.stop i H'/\Z σ' H')\/(J.go i H'/\∀x H5,J.yld i H' x H5->g2 x σ' H5 λσ6 H6=>tt2 σ6 H6 λb H7=>
   if b=true then te σ6 H7 λy H8=>∃ys,H8 D=some (.lst ys)/\ys.length<sizeLine/\∃m',m' < n/\W (i+1) m' σ6 (upd H8 D (.lst (ys ++ [y]))) else ∃m',m' < n/\W (i+1) m' σ6 H7)) :
  codeAny (model X.prog X.w) X.A (.compLoop (LC2 elt t1 i1 t2 i2 f1 f2 scope pos) 1 (.ref it) (.ref D) (compEnvC scope cl C X.env)) (λr s'=>match r with|.ok _=>∃σ' H',Inv (yh X N' scope cl C fp s2 H2) pins σ' H' s'/\Z σ' H'|.error _=>False) s:=by
 have stat:∀{H':Hp},(∀b∈fq,H' b=none)->∀b∈fq,FpOk (yh X N' scope cl C fp s2 H2) pins H' b:=λhn b hb=>⟨hn b hb,(f b hb).2⟩
 refine zl1 (λn s'=>∃i σ' H',Inv (yh X N' scope cl C fp s2 H2) pins σ' H' s'/\tn i s'.heap/\(∀b∈fq,H' b=none)/\W i n σ' H') ?_ m0 ⟨0,_,_,I,st,λb hb=>(f b hb).1,w0⟩;intro n s3 zz;refine gg λG zk=>?_;obtain⟨i,σ3,H3,I3,st3,fr3,w3⟩:=zz;refine zk ?_;clear zk;rcases turn i n σ3 H3 w3 with⟨stop,qn⟩ |⟨go,step⟩
 ·refine thn (T.done (yh X N' scope cl C fp s2 H2) rfl rfl rfl rfl i pins s3 σ3 H3 (λ_ _=>False) I3 (stat fr3) st3 stop) λr s4 ⟨hr,J4⟩=>?_;subst hr;exact⟨σ3,H3,J4,qn⟩
 ·refine thn (T.item (yh X N' scope cl C fp s2 H2) rfl rfl rfl rfl i pins s3 σ3 H3 (λ_ _=>False) I3 (stat fr3) st3 go) λr s4 ⟨u,hr,h4⟩=>?_;subst hr;refine thn h4 λ_ s5 zr36=>?_;obtain⟨x,H5,I5,r5,y5,st5,fr5⟩:=zr36;have I5':=I5.pinned (stat fr5) (T.obj _ _ st5);refine thn (hg _ s5 σ3 H5 x u _ I5' r5 (step x H5 y5)) λ_ s6 zr38=>?_;obtain⟨σ6,H6,I6,q6⟩:=zr38;refine thn (ht _ s6 σ6 H6 _ I6 q6) λok s7 ⟨H7,I7,q7⟩=>?_
  have again:∀{H8:Hp}{s8:Shared},Inv (yh X N' scope cl C fp s2 H2) (pins++zak fq s5.heap) σ6 H8 s8->(∃m',m' < n/\W (i+1) m' σ6 H8)->∃m,m<n/\∃i σ' H',Inv (yh X N' scope cl C fp s2 H2) pins σ' H' s8/\tn i s8.heap/\(∀b∈fq,H' b=none)/\W i m σ' H':=λ{H8 s8} I8 n8=>by
   obtain⟨m',hm,w8⟩:=n8;refine⟨m',hm,i+1,σ6,H8,I8.unpinned,T.keep _ _ _ st5 λb hb o e=>(I8.pin (b,o) (List.mem_append_right _ (List.mem_append_right _ (wv hb e)))).1,λb hb=>?_,w8⟩;obtain⟨o,e,d⟩:=T.obj _ _ st5 b hb;exact(I8.pin (b,o) (List.mem_append_right _ (List.mem_append_right _ (wv hb e)))).2.1
  cases ok with
  |false=>
   rw[if_neg Bool.false_ne_true]at q7;exact again I7 q7
  |true=>
   rw[if_pos rfl]at q7;refine thn (he _ s7 σ6 H7 _ I7 q7) λy s8 zr51=>?_;obtain⟨v8,H8,I8,r8,q8⟩:=zr51;obtain⟨ys,e8,z8,w8⟩:=q8;refine thn (jw (X:=yh X N' scope cl C fp s2 H2) _ s8 σ6 H8 (.ref D) [v8] (.ref D) [y] (λv H=>∃m',m' < n/\W (i+1) m' σ6 H) I8 rfl (.cons r8 .nil) ⟨D,ys,v8,rfl,rfl,e8,z8,w8⟩) λ_ s9 zr53=>?_;obtain⟨v9,H9,I9,_,w9⟩:=zr53;exact again I9 w9
theorem zl3{elt tg iter t2 i2:Expr}{ifs ifs2:List Expr}{wi2:TI}{g2:TG}{tt2:TT}{scope:Scope}{pos:Pos}{cl:List (Str×Addr)}{N' capt:List Str}{k:Nat}{js:List Nat}{g:TG}{tt:TT}{te:TE}{J:It}{fp:List Addr}{tn:Nat->Heap->Prop}{it:Addr}
  {pins:List (Addr×Obj)}{σ:St}{H2:Hp}{s2:Shared}{Q:VK}{E:Value->Shared->Prop} (hc:X.calm=true) (L:zdn X scope cl N' capt k js)
  (hg:∀C fp s2 H2,PG (yh X N' scope cl C fp s2 H2) tg g) (ht:∀C fp s2 H2,PTs (yh X N' scope cl C fp s2 H2) ifs tt) (hi2:∀C fp s2 H2,PI (yh X N' scope cl C fp s2 H2) t2 i2 wi2) (hg2:∀C fp s2 H2,PG (yh X N' scope cl C fp s2 H2) t2 g2) (ht2:∀C fp s2 H2,PTs (yh X N' scope cl C fp s2 H2) ifs2 tt2) (he:∀C fp s2 H2,PE (yh X N' scope cl C fp s2 H2) elt te) (hs2:∀C x,foldedSetIterable i2 (compEnvC scope cl C X.env) x=pure x)
  (I2:Inv X pins σ H2 s2) (T:zf9 X.prog X.w X.K tg J fp it tn) (st2:tn 0 s2.heap) (f2:∀b∈fp,FpOk X pins H2 b) (q:∀D,H2 D=none->zc6 J D g tt wi2 g2 tt2 te (xf k js σ) H2 Q) :
  wpAny (model X.prog X.w) X.A (newList []) (λacc s3=>wpAny (model X.prog X.w) X.A (newFunctionEnv scope X.env.globals cl [] X.env.qual none .none (some X.env)) (λcenv s4=>
   codeAny (model X.prog X.w) X.A (.compStart (LC2 elt tg iter t2 i2 ifs ifs2 scope pos) 0 (.ref it) acc { cenv with scope:=relabel scope X.env }) (LcEnd X pins σ Q acc cenv.locals) s4) E s3) E s2:=by
 refine wpAny_newObj_type (wpAny_newFunctionEnv L.cell (by intro y hy;simp at hy) (λh₁ hns₁ hsb₁=>?_) L.kind);dsimp only at hns₁ hsb₁ ⊢;generalize hH2:s2.heap.push { cls:=.type "list",dict:=none,data:=.seq ([]:List Value).toArray }=G at hns₁ hsb₁ ⊢;have hC:G.objs.size=s2.heap.objs.size+1:=by rw[<-hH2,Heap.size_push]
 have hDC:s2.heap.objs.size≠G.objs.size:=by rw[hC];exact Nat.ne_of_lt (Nat.lt_succ_self _)
 have hCle:s2.heap.objs.size<=G.objs.size:=by rw[hC];exact Nat.le_succ _
 have below:∀b,b<s2.heap.objs.size->b≠G.objs.size:=λb hb=>by rw[hC];exact Nat.ne_of_lt (Nat.lt_succ_of_lt hb)
 have keep:∀b o,s2.heap.get? b=some o->h₁.get? b=some o:=λb o e=>hsb₁.extBut b o (below b (Heap.lt_size e)) (Heap.get?_push_of_some _ (hH2 ▸ Heap.get?_push_of_some _ e));have hl:h₁.get? s2.heap.objs.size=some { cls:=.type "list",data:=.seq #[] 0 }:=hsb₁.extBut _ _ hDC (Heap.get?_push_of_some _ (hH2 ▸ Heap.get?_push_size _ rfl));have ho2:=T.obj _ _ st2;have ok:(yh X N' scope cl G.objs.size fp s2 H2).Ok:=zrm I2 hc L.kind hCle L.sub L.has f2 ho2;generalize hD:s2.heap.objs.size=D at hl hDC ⊢;generalize hCC:G.objs.size=C at hns₁ hsb₁ hDC hC hCle below ok ⊢;have hDle:s2.heap.objs.size<=D:=by rw[hD];exact Nat.le_refl _
 have I4:Inv (yh X N' scope cl C fp s2 H2) [] (xf k js σ) (upd H2 D (.lst [])) { s2 with heap:=h₁,toks:=s2.toks+([]:List (Str×Value)).length } :=
  zgf I2 ok hDle hCle hDC keep hns₁ hl L.sub L.cap L.hN L.hk
 obtain⟨W,⟨m0,w0⟩,turn⟩:=q D (I2.hok.fresh hDle);have tn0:tn 0 h₁:=T.keep _ _ _ st2 λb _ o e=>keep b o e;have fr0:∀b∈fp,upd H2 D (.lst []) b=none:=λb hb=>by
  obtain⟨o,e,_⟩:=ho2 b hb;rw[zn (Nat.ne_of_lt (Nat.lt_of_lt_of_le (Heap.lt_size e) hDle))];exact(f2 b hb).1
 have stat:∀{H':Hp},(∀b∈fp,H' b=none)->∀b∈fp,FpOk (yh X N' scope cl C fp s2 H2) [] H' b:=λhn b hb=>by
  refine⟨hn b hb,(ok.exf b hb).1,ok.exfs b hb,.inl hb,(ok.exf b hb).2,λp hp=>absurd (show p∈([]:List (Addr×Obj)) from hp) (by simp)⟩
 have loop:∀s₃:Shared,s₃ = { s2 with heap:=h₁,toks:=s2.toks+([]:List (Str×Value)).length } ->
   codeAny (model X.prog X.w) X.A (.compLoop (LC2 elt tg iter t2 i2 ifs ifs2 scope pos) 0 (.ref it) (.ref D) (compEnvC scope cl C X.env)) (LcEnd X pins σ Q (.ref D) C) s₃:=by
  rintro s₃ rfl;refine zl2 (λn s'=>∃i σ' H',Inv (yh X N' scope cl C fp s2 H2) [] σ' H' s'/\tn i s'.heap/\(∀b∈fp,H' b=none)/\W i n σ' H') (hs2 C) ?_ m0 ⟨0,_,_,I4,tn0,fr0,w0⟩;intro n s3 zz;refine gg λG zk=>?_;obtain⟨i,σ3,H3,I3,st3,fr3,w3⟩:=zz;refine zk ?_;clear zk;rcases turn i n σ3 H3 w3 with⟨stop,qn⟩ |⟨go,step⟩
  ·refine thn (T.done (yh X N' scope cl C fp s2 H2) rfl rfl rfl rfl i [] s3 σ3 H3 (λ_ _=>False) I3 (stat fr3) st3 stop) λr s4 ⟨hr,J4⟩=>?_;subst hr;obtain⟨m,hn,_⟩:=id J4.loc;have hs:X.s₀.heap.objs.size<=C:=Nat.le_trans I2.sz hCle;refine⟨.next,D,H3,m,rfl,rfl,I2.call' (ch:=fp) J4.os J4.base J4.hok J4.bare (λb hb=>?_),qn,hn,J4.free,λz=>?_,hs,λx c h z=>?_,λp hp z=>?_⟩
   ·obtain⟨f0,f1,f2',f3,f4,f5⟩:=f2 b hb;exact⟨f3,f1,f4,f5⟩
   ·have:=I2.lt;rw[<-z]at this;exact absurd (Nat.lt_of_lt_of_le this hCle) (Nat.lt_irrefl _)
   ·obtain⟨v,o,z1,_⟩:=I2.cell x c h;have:=Heap.lt_size z1;rw[z]at this;exact absurd (Nat.lt_of_lt_of_le this hCle) (Nat.lt_irrefl _)
   ·have:=Heap.lt_size (I2.pin p hp).1;rw[z]at this;exact absurd (Nat.lt_of_lt_of_le this hCle) (Nat.lt_irrefl _)
  ·refine thn (T.item (yh X N' scope cl C fp s2 H2) rfl rfl rfl rfl i [] s3 σ3 H3 (λ_ _=>False) I3 (stat fr3) st3 go) λr s4 ⟨u,hr,h4⟩=>?_;subst hr;refine thn h4 λ_ s5 zr21=>?_;obtain⟨x,H5,I5,r5,y5,st5,fr5⟩:=zr21;have I5':=I5.pinned (stat fr5) (T.obj _ _ st5);refine thn (hg C fp s2 H2 _ s5 σ3 H5 x u _ I5' r5 (step x H5 y5)) λ_ s6 zr23=>?_;obtain⟨σ6,H6,I6,q6⟩:=zr23;refine thn (ht C fp s2 H2 _ s6 σ6 H6 _ I6 q6) λok s7 ⟨H7,I7,q7⟩=>?_
   have again:∀{σ8:St}{H8:Hp}{s8:Shared},Inv (yh X N' scope cl C fp s2 H2) ([]++zak fp s5.heap) σ8 H8 s8->(∃m',m' < n/\W (i+1) m' σ8 H8)->∃m,m<n/\∃i σ' H',Inv (yh X N' scope cl C fp s2 H2) [] σ' H' s8/\tn i s8.heap/\(∀b∈fp,H' b=none)/\W i m σ' H':=λ{σ8 H8 s8} I8 n8=>by
    obtain⟨m',hm,w8⟩:=n8;refine⟨m',hm,i+1,σ8,H8,I8.unpinned,T.keep _ _ _ st5 λb hb o e=>(I8.pin (b,o) (List.mem_append_right _ (List.mem_append_right _ (wv hb e)))).1,λb hb=>?_,w8⟩;obtain⟨o,e,d⟩:=T.obj _ _ st5 b hb;exact(I8.pin (b,o) (List.mem_append_right _ (List.mem_append_right _ (wv hb e)))).2.1
   cases ok with
   |false=>
    rw[if_neg Bool.false_ne_true]at q7;exact again I7 q7
   |true=>
    rw[if_pos rfl]at q7;refine thn (hi2 C fp s2 H2 _ s7 σ6 H7 _ I7 q7) λy s8 h8=>thn h8 λitv s9 h9=>?_;obtain⟨it2,fp2,tn2,J2,H9,e9,I9,T2,st9,f9,W2,⟨m2,w2⟩,turn2⟩:=h9;subst e9;have inner:=zt9 (pos:=pos) (i1:=iter) (t1:=tg) (f1:=ifs) (i2:=i2) (hg2 C fp s2 H2) (ht2 C fp s2 H2) (he C fp s2 H2) I9 T2 st9 f9 w2 turn2;refine zt8 (codeAny_mono inner λr s10 h10=>?_) (T2.self _ 0 _ _ _ st9 (codeAny_mono inner λr s10 h10=>?_))
    all_goals
     cases r with
     |ok f=>
      obtain⟨σ10,H10,I10,w10⟩:=h10;exact again I10 w10
     |error e=>exact h10
 exact codeAny_compStart_list (loop _ rfl) (T.self _ 0 _ _ _ tn0 (loop _ rfl))
end
def zua:Option W->Option W
 |some (.own _)=>none
 |some (.tmp _)=>none
 |w=>w
def qk(is:List Nat)(n:Nat):DSt->DSt
 |[]=>[]
 |w::ws=>(if n∈is then none else zua w)::qk is (n+1) ws
theorem zkl(is:List Nat):∀(σ:DSt) (n j:Nat),n+j∈is->j<σ.length->(qk is n σ)[j]?=some none
 |[],_,_,_,h=>absurd h (Nat.not_lt_zero _)
 |w::ws,n,0,h,_=>by
  rw[Nat.add_zero]at h;simp[qk,h]
 |w::ws,n,j+1,h,hl=>by
  rw[qk,List.getElem?_cons_succ];exact zkl is ws (n+1) j (by rw[show n+1+j=n+(j+1) by omega];exact h) (by simpa using hl)
section
variable {K:PySem.W.Frag}{H₀ H H':Hp}
theorem Slots.dry(is:List Nat)(p:Pers H H'){σD:DSt}{σ:St}{fp:List Addr}(h:Slots K H₀ H σD σ fp):∀n,Slots K H₀ H' (qk is n σD) σ []:=by
 induction h with
 |nil=>exact λn=>.nil
 |none t ih=>
  intro n;unfold qk
  split <;> exact .none (ih _)
 |val r t ih=>
  intro n;unfold qk
  split
  ·exact .none (ih _)
  ·exact .val (r.mono p) (ih _)
 |vw r t ih=>
  intro n;unfold qk
  split
  ·exact .none (ih _)
  ·exact .vw r (ih _)
 |vd r t ih=>
  intro n;unfold qk
  split
  ·exact .none (ih _)
  ·exact .vd r (ih _)
 |exc r t ih=>
  intro n;unfold qk
  split
  ·exact .none (ih _)
  ·exact .exc r (ih _)
 |scr r t ih=>
  intro n;unfold qk
  split
  ·exact .none (ih _)
  ·exact .scr r (ih _)
 |pen r t ih=>
  intro n;unfold qk
  split
  ·exact .none (ih _)
  ·exact .pen (p _ _ r rfl) (ih _)
 |tmp r t ih=>
  intro n;unfold qk
  split <;> exact .none (ih _)
 |own r t ih=>
  intro n;unfold qk
  split <;> exact .none (ih _)
theorem DOk.dry(is:List Nat)(p:Pers H H')(sm:Same H₀ H'){σD:DSt}{σ:St}(h:DOk K H₀ H σD σ):DOk K H₀ H' (qk is 0 σD) σ:=by
 obtain⟨s,fp,sl,nd,hf⟩:=h;exact⟨sm,[],sl.dry is p 0,List.nodup_nil,λa ha=>by cases ha⟩
end
def zi4(f:D->(Option D->Prop)->Prop):List D->List D->(List D->Prop)->Prop
 |[],acc,Q=>Q acc
 |e::es,acc,Q=>f e λo=>match o with
  |some y=>acc.length<sizeLine/\zi4 f es (acc ++ [y]) Q
  |none=>zi4 f es acc Q
def zhg(g:DTG)(tt:DTT)(ti2:DTF)(is2:List Nat)(g2:DTG)(tt2:DTT)(te:DTE)(σ0:DSt):List D->List D->(List D->Prop)->Prop
 |[],acc,Q=>Q acc
 |d::ds,acc,Q=>g d σ0 λσ1=>tt σ1 λb=>if b=true then ti2 σ1 λes=>zi4 (lcF g2 tt2 te (qk is2 0 σ1)) es acc λacc'=>zhg g tt ti2 is2 g2 tt2 te σ0 ds acc' Q else zhg g tt ti2 is2 g2 tt2 te σ0 ds acc Q
def zq4(k:Nat)(js:List Nat)(ti:DTF)(g:DTG)(tt:DTT)(ti2:DTF)(is2:List Nat)(g2:DTG)(tt2:DTT)(te:DTE):DTF:=λσ Q=>ti σ λds=>zhg g tt ti2 is2 g2 tt2 te (wc k js σ) ds [] Q
section
variable {X:Cx}{elt tg iter t2 i2:Expr}{ifs ifs2:List Expr}{scope:Scope}{pos:Pos}{cl:List (Str×Addr)}{N' capt:List Str}{k:Nat}{js is is2:List Nat}{ti ti2:DTF}{g g2:DTG}{tt tt2:DTT}{te:DTE}
theorem zl4{σ:St}{σD:DSt}{H₀ H1:Hp}{J:It}{ds:List D}{QD:List D->Prop}{Dd:Addr}(ok:DOk X.K H₀ H1 σD σ)(it:ItOk X.K Same J H1 ds)(his:∀j∈is,j<k)(his2:∀j∈is2,j<k)(hn:H1 Dd=none)(q1:zhg g tt ti2 is2 g2 tt2 te (wc k js σD) ds [] QD):
  zc6 J Dd (cnG X.K is g) (cnT X.K tt) (cnI X.K Pers ti2) (cnG X.K is2 g2) (cnT X.K tt2) (cnE X.K te) (xf k js σ) H1 (λv H'=>∃a vs xs,v=.ref a/\Same H1 H'/\H1 a=none/\H' a=some (.lst vs)/\Reps X.K H' xs vs/\QD xs):=by
 refine⟨λi m σ' H'=>m=ds.length-i/\i<=ds.length/\Same H1 H'/\σ'.length=(xf k js σ).length/\(∀j,k<=j->σ'[j]?=(xf k js σ)[j]?)/\∃acc vs,H' Dd=some (.lst vs)/\Reps X.K H' acc vs/\zhg g tt ti2 is2 g2 tt2 te (wc k js σD) (ds.drop i) acc QD,
  ⟨ds.length,rfl,Nat.zero_le _,zy hn _,rfl,λ_ _=>rfl,[],[],zj,.nil,q1⟩,?_⟩
 intro i m σ' H' zz;refine gg λG zk=>?_;obtain⟨zem,hi,sm,hl,fr,acc,vs,eD,ra,q1⟩:=zz;refine zk ?_;clear zk;subst zem;have ok1:DOk X.K H1 H' (wc k js σD) σ':=by
  refine DOk.keepN ((ok.block k js).after sm) hl λj=>?_
  by_cases hj:j<k
  ·left;unfold wc;rw[List.getElem?_append_left (by simpa using hj),List.getElem?_replicate,if_pos hj]
  ·right;exact fr j (by omega)
 by_cases hlt:i<ds.length
 ·have e:ds[i]?=some ds[i]:=by simp[hlt]
  obtain⟨go,yl⟩:=it.go H' i ds[i] sm e;refine .inr ⟨go,λx H2 y=>?_⟩;obtain⟨s2,r2⟩:=yl x H2 y;rw[List.drop_eq_getElem_cons hlt]at q1;refine⟨H1,wc k js σD,ds[i],_,ok1.after s2,r2,q1,λσ2 σD2 l2 ok2 f2 q2=>?_⟩;have fr2:∀j,k<=j->σ2[j]?=(xf k js σ)[j]?:=λj hj=>by rw[f2 j (λz=>absurd (his j z) (by omega)),fr j hj]
  refine⟨H1,σD2,_,ok2,q2,λb H4 s4 q4=>?_⟩
  cases b with
  |false=>
   rw[if_neg Bool.false_ne_true]at q4 ⊢;exact⟨ds.length-(i+1),by omega,rfl,hlt,(sm.trans s2).trans s4,l2.trans hl,fr2,acc,vs,s4 _ _ (s2 _ _ eD),(ra.same s2).same s4,q4⟩
  |true=>
   rw[if_pos rfl]at q4 ⊢;refine⟨H1,σD2,_,ok2.after s4,q4,λJ2 H5 es s5 it5 q5=>?_⟩;have ok5:=(ok2.after s4).after s5;refine⟨λi2 n2 σ6 H6=>n2=es.length-i2/\i2<=es.length/\Pers H5 H6/\Same H1 H6/\σ6.length=σ2.length/\(∀j,j∉is2->σ6[j]?=σ2[j]?)/\∃acc vs,H6 Dd=some (.lst vs)/\Reps X.K H6 acc vs/\zi4 (lcF g2 tt2 te (qk is2 0 σD2)) (es.drop i2) acc (λacc'=>zhg g tt ti2 is2 g2 tt2 te (wc k js σD) (ds.drop (i+1)) acc' QD),
    ⟨es.length,rfl,Nat.zero_le _,Pers.refl _,((sm.trans s2).trans s4).trans s5,rfl,λ_ _=>rfl,acc,vs,s5 _ _ (s4 _ _ (s2 _ _ eD)),((ra.same s2).same s4).same s5,q5⟩,?_⟩
   intro j2 n2 σ6 H6 zz;refine gg λG zk=>?_;obtain⟨zem,hj,p6,sm6,l6,f6,acc,vs,eD6,ra6,q6⟩:=zz;refine zk ?_;clear zk;subst zem;have okB:DOk X.K H1 H6 (qk is2 0 σD2) σ6:=by
    refine DOk.keepN (ok5.dry is2 p6 sm6) l6 λj=>?_
    by_cases hj:j∈is2
    ·by_cases hjl:j<σD2.length
     ·exact .inl (zkl is2 σD2 0 j (by rw[Nat.zero_add];exact hj) hjl)
     ·right;have h1:=ok5.len;rw[List.getElem?_eq_none (by omega),List.getElem?_eq_none (by omega)]
    ·exact .inr (f6 j hj)
   by_cases hlt2:j2<es.length
   ·have e2:es[j2]?=some es[j2]:=by simp[hlt2]
    obtain⟨go2,yl2⟩:=it5.go H6 j2 es[j2] p6 e2;refine .inr ⟨go2,λx7 H7 y7=>?_⟩;obtain⟨s7,r7⟩:=yl2 x7 H7 y7;rw[List.drop_eq_getElem_cons hlt2]at q6;refine⟨H1,qk is2 0 σD2,es[j2],_,okB.after s7,r7,q6,λσ8 σD8 l8 ok8 f8 q8=>?_⟩;have fr8:∀j,j∉is2->σ8[j]?=σ2[j]?:=λj hj=>(f8 j hj).trans (f6 j hj);refine⟨H1,σD8,_,ok8,q8,λb H9 s9 q9=>?_⟩
    cases b with
    |false=>
     rw[if_neg Bool.false_ne_true]at q9 ⊢;exact⟨es.length-(j2+1),by omega,rfl,hlt2,p6.trans (s7.trans s9).pers,(sm6.trans s7).trans s9,l8.trans l6,fr8,acc,vs,s9 _ _ (s7 _ _ eD6),(ra6.same s7).same s9,q9⟩
    |true=>
     rw[if_pos rfl]at q9 ⊢;refine⟨H1,σD8,_,ok8.after s9,q9,λy H10 dy s10 r10 q10=>?_⟩;have eD10:=s10 _ _ (s9 _ _ (s7 _ _ eD6));have ra10:=((ra6.same s7).same s9).same s10;refine⟨vs,eD10,by rw[<-ra10.length];exact q10.1,es.length-(j2+1),by omega,rfl,hlt2,(p6.trans ((s7.trans s9).trans s10).pers).trans (vo eD10 rfl),?_,l8.trans l6,fr8,acc ++ [dy],vs ++ [y],zj,?_,q10.2⟩
     ·exact Same.but (((sm6.trans s7).trans s9).trans s10) hn But.write
     ·exact(ra10.append (.cons r10 .nil)).mono (vo eD10 rfl)
   ·have e2:j2=es.length:=by omega
    subst e2;rw[List.drop_length]at q6;exact .inl ⟨it5.stop H6 p6,ds.length-(i+1),by omega,rfl,hlt,sm6,(l6.trans l2).trans hl,λj hj=>(f6 j λz=>absurd (his2 j z) (by omega)).trans (fr2 j hj),acc,vs,eD6,ra6,q6⟩
 ·have e:i=ds.length:=by omega
  subst e;rw[List.drop_length]at q1;exact .inl ⟨it.stop H' sm,Dd,vs,acc,rfl,sm,hn,eD,ra,q1⟩
end
section
variable {X:Cx}
theorem zl5{i:Nat}{x:Str}{elt tg iter t2 i2:Expr}{ifs ifs2:List Expr}{wi2:TI}{g2:TG}{tt2:TT}{scope:Scope}{pos pos' spos:Pos}{cl:List (Str×Addr)}{N' capt:List Str}{k:Nat}{js:List Nat}{wi:TI}{g:TG}{tt:TT}{te:TE}(hN:X.N.Nodup)(hi':X.N[i]?=some x)(hx:Loc X.env.scope x)(hc:X.calm=true)(L:zdn X scope cl N' capt k js)
  (hi:PI X tg iter wi) (hg:∀C fp s2 H2,PG (yh X N' scope cl C fp s2 H2) tg g) (ht:∀C fp s2 H2,PTs (yh X N' scope cl C fp s2 H2) ifs tt) (hi2:∀C fp s2 H2,PI (yh X N' scope cl C fp s2 H2) t2 i2 wi2) (hg2:∀C fp s2 H2,PG (yh X N' scope cl C fp s2 H2) t2 g2) (ht2:∀C fp s2 H2,PTs (yh X N' scope cl C fp s2 H2) ifs2 tt2) (he:∀C fp s2 H2,PE (yh X N' scope cl C fp s2 H2) elt te) (hs2:∀C x,foldedSetIterable i2 (compEnvC scope cl C X.env) x=pure x:=by intro _ _;rfl)
  (hsw:swapsWith (LC2 elt tg iter t2 i2 ifs ifs2 scope pos) (some (.Name x pos')) spos.line X.env=pure true:=by rfl)
  (hs:∀x,foldedSetIterable iter X.env x=pure x:=by intro _;rfl) (hf:X.fn x=true\/X.env.scope.names.lookup x=some .local:=by first|exact .inl rfl|exact .inr rfl|assumption):PS X (.Assign [.Name x pos'] (LC2 elt tg iter t2 i2 ifs ifs2 scope pos) spos) (zpk (zvv k js wi g tt wi2 g2 tt2 te) (zmj i)):=by
 intro pins s σ H D I h;have h:zvv k js wi g tt wi2 g2 tt2 te σ H (λv H1=>D.nx (σ.set i (some v)) H1):=h;rw[exec_Assign_Name_used _ _ _ _ hsw];refine wpAny_bind (wpAny_standAt (wpAny_bind ?_));show wpAny _ X.A (do let _ <-comprehension (LC2 elt tg iter t2 i2 ifs ifs2 scope pos) scope X.env _ (newList []) false (eval iter X.env) (some (assign (.Name x pos') X.env))) _ _ s;refine wpAny_bind (wpAny_mono (wpAny_comprehension_free (use:=some (assign (.Name x pos') X.env)) (Q:=λ_ s'=>SP X pins D .next s') rfl hs L.clos L.kind L.names
  (thn (hi pins s σ H _ I h) λv s1 h1=>thn h1 λitv s2 h2=>?_)) (λ_ s' hq=>wpAny_pure (wpAny_pure hq)) λ_ _ e=>e)
 obtain⟨it,fp,tn,J,H2,e,I2,T,st2,f2,q⟩:=h2;subst e;refine thn (zl3 (E:=X.xe) hc L hg ht hi2 hg2 ht2 he hs2 I2 T st2 f2 q) λacc s3 h3=>thn h3 λcenv s4 h4=>codeAny_mono h4 λr s' hr=>?_;obtain⟨f,D',H',m,rfl,rfl,J',qq,hn,b1,b2,b3,b4,b5⟩:=hr;show wpAny _ X.A (assign (.Name x pos') X.env (.ref D')) _ _ _;refine wpAny_assign_Name (zbd (v:=.ref D') J' hN hi' hx rfl (λs'' J'' hsb=>?_) hf);obtain⟨a,hsb,ha⟩:=hsb;have hne:cenv.locals≠a:=by
  rcases ha with z|z
  ·rw[z];exact b2
  ·exact λz'=>b4 x a z z'.symm
 exact⟨m,hn.sameBut hsb hne,λh' hs'=>⟨_,H',LcEnd.let_go J'' b1 b2 b3 b4 b5 hs',qq⟩⟩
variable {elt tg iter t2 i2:Expr}{ifs ifs2:List Expr}{scope:Scope}{pos:Pos}{cl:List (Str×Addr)}{N' capt:List Str}{k:Nat}{js is is2:List Nat}{ti ti2:DTF}{g g2:DTG}{tt tt2:DTT}{te:DTE}
theorem zi5{i:Nat}{x:Str}{pos' spos:Pos}(hN:X.N.Nodup)(hi':X.N[i]?=some x)(hx:Loc X.env.scope x)(hc:X.calm=true)(L:zdn X scope cl N' capt k js)
  (hi:DIw X tg iter ti) (hg:∀C fp s2 H2,DG (yh X N' scope cl C fp s2 H2) tg is g) (ht:∀C fp s2 H2,DTs (yh X N' scope cl C fp s2 H2) ifs tt)
  (hi2:∀C fp s2 H2,DI (yh X N' scope cl C fp s2 H2) t2 i2 ti2) (hg2:∀C fp s2 H2,DG (yh X N' scope cl C fp s2 H2) t2 is2 g2) (ht2:∀C fp s2 H2,DTs (yh X N' scope cl C fp s2 H2) ifs2 tt2)
  (he:∀C fp s2 H2,DE (yh X N' scope cl C fp s2 H2) elt te) (his:∀j∈is,j<k) (his2:∀j∈is2,j<k) (hs2:∀C x,foldedSetIterable i2 (compEnvC scope cl C X.env) x=pure x)
  (hsw:swapsWith (LC2 elt tg iter t2 i2 ifs ifs2 scope pos) (some (.Name x pos')) spos.line X.env=pure true) (hs:∀x,foldedSetIterable iter X.env x=pure x) (hf:X.fn x=true\/X.env.scope.names.lookup x=some .local)
  {pins:List (Addr×Obj)}{s:Shared}{σ:St}{H H₀:Hp}{σD:DSt}{Q:List D->Prop} (I:Inv X pins σ H s) (ok:DOk X.K H₀ H σD σ) (q:zq4 k js ti g tt ti2 is2 g2 tt2 te σD Q) :
  wpAny (model X.prog X.w) X.A (exec (.Assign [.Name x pos'] (LC2 elt tg iter t2 i2 ifs ifs2 scope pos) spos) X.env) (λf s'=>f=.next/\∃a H' vs xs,Inv X pins (σ.set i (some (.ref a))) H' s'/\Same H H'/\H a=none/\H' a=some (.lst vs)/\Reps X.K H' xs vs/\Q xs) X.xe s:=by
 refine thn (zl5 (wi:=cnI X.K Same ti) (g:=cnG X.K is g) (tt:=cnT X.K tt) (wi2:=cnI X.K Pers ti2) (g2:=cnG X.K is2 g2) (tt2:=cnT X.K tt2) (te:=cnE X.K te) hN hi' hx hc L hi.pi (λC fp s2 H2=>(hg C fp s2 H2).pg) (λC fp s2 H2=>(ht C fp s2 H2).pts) (λC fp s2 H2=>(hi2 C fp s2 H2).pi) (λC fp s2 H2=>(hg2 C fp s2 H2).pg) (λC fp s2 H2=>(ht2 C fp s2 H2).pts) (λC fp s2 H2=>(he C fp s2 H2).pe) hs2 hsw hs hf pins s σ H
  { nx:=λσ' H'=>∃a vs xs,σ'=σ.set i (some (.ref a))/\Same H H'/\H a=none/\H' a=some (.lst vs)/\Reps X.K H' xs vs/\Q xs,rt:=λ_ _=>False } I ?_) λf s' z=>?_
 ·refine⟨H₀,σD,_,ok,q,λJ H1 ds s1 it q1 Dd hn=>?_⟩;obtain⟨W,w0,turn⟩:=zl4 (ok.after s1) it his his2 hn q1;refine⟨W,w0,λi m σ' H' w=>?_⟩;rcases turn i m σ' H' w with⟨st,aa,vs,xs,e,sm,n,e2,r,qd⟩|h
  ·exact .inl ⟨st,aa,vs,xs,by rw[e],s1.trans sm,s1.free n,e2,r,qd⟩
  ·exact .inr h
 ·cases f with
  |next=>obtain⟨σ',H',I',a,vs,xs,rfl,sm,n,e,r,q⟩:=z;exact⟨rfl,a,H',vs,xs,I',sm,n,e,r,q⟩
  |ret u=>obtain⟨_,_,_,_,_,z⟩:=z;exact z.elim
  |brk=>obtain⟨_,_,_,z⟩:=z;exact z.elim
  |cont=>obtain⟨_,_,_,z⟩:=z;exact z.elim
theorem zl6{i:Nat}{x:Str}{pos' spos:Pos}(hN:X.N.Nodup)(hi':X.N[i]?=some x)(hx:Loc X.env.scope x)(hc:X.calm=true)(L:zdn X scope cl N' capt k js)
  (hi:DIw X tg iter ti) (hg:∀C fp s2 H2,DG (yh X N' scope cl C fp s2 H2) tg is g) (ht:∀C fp s2 H2,DTs (yh X N' scope cl C fp s2 H2) ifs tt)
  (hi2:∀C fp s2 H2,DI (yh X N' scope cl C fp s2 H2) t2 i2 ti2) (hg2:∀C fp s2 H2,DG (yh X N' scope cl C fp s2 H2) t2 is2 g2) (ht2:∀C fp s2 H2,DTs (yh X N' scope cl C fp s2 H2) ifs2 tt2)
  (he:∀C fp s2 H2,DE (yh X N' scope cl C fp s2 H2) elt te) (his:∀j∈is,j<k:=by decide) (his2:∀j∈is2,j<k:=by decide) (hs2:∀C x,foldedSetIterable i2 (compEnvC scope cl C X.env) x=pure x:=by intro _ _;rfl)
  (hsw:swapsWith (LC2 elt tg iter t2 i2 ifs ifs2 scope pos) (some (.Name x pos')) spos.line X.env=pure true:=by rfl) (hs:∀x,foldedSetIterable iter X.env x=pure x:=by intro _;rfl) (hf:X.fn x=true\/X.env.scope.names.lookup x=some .local:=by first|exact .inl rfl|exact .inr rfl|assumption) :
  DS X (.Assign [.Name x pos'] (LC2 elt tg iter t2 i2 ifs ifs2 scope pos) spos) (znv i (dFz (zq4 k js ti g tt ti2 is2 g2 tt2 te))):=⟨λpins s σ H H₀ σD Dn I ok q=>by
 refine thn (zi5 hN hi' hx hc L hi hg ht hi2 hg2 ht2 he his his2 hs2 hsw hs hf I ok q) λf s' ⟨ef,a,H',vs,xs,I',sm,n,e,r,qd⟩=>?_;subst ef;obtain⟨H'',J,sm',r'⟩:=je I' sm n e r;exact⟨_,H'',_,J,(ok.after sm').setV r' i,sm'.pers,qd⟩⟩
end
section
variable {X:Cx}{e:Expr}{es:List Expr}{pos:Pos}{i j:Nat}{sp:zhc}{t:zhd}
def zkm(j i:Nat)(sp:zhc)(t:zhd):DTS:=λDn σ=>match σ[j]? with
 |some (some (.own (.lst _)))=>zc3 i sp t (λd σ'=>match σ'[j]? with
  |some (some (.own (.lst xs)))=>xs.length<sizeLine/\Dn.nx (clr (σ'.set j (some (.own (.lst (xs ++ [d]))))))
  |_=>False) σ
 |_=>False
theorem zq5(j:Nat){x:Str}{p1 apos cpos:Pos}(P:PE X e (ziy X.K i sp t))(hN:X.N[j]?=some x:=by rfl)(hv:Vis X.env.scope x:=by first|exact Or.inl rfl|exact Or.inr (Or.inl rfl)|exact Or.inr (Or.inr rfl))(hd:(x ==("__debug__" : Str))=false:=by decide)
  (hcd:(x ==("__classdict__" : Str))=false:=by decide)
  (hbase:attributeBase (.Name x p1) "append" X.env (eval (.Name x p1) X.env)=eval (.Name x p1) X.env:=by rfl)
  (hfew:((backTo cpos (starEach (e :: []) X.env)).all (λx=>!x.1) && (backToKw cpos (keywordEach [] X.env)).all (λx=>x.1.isSome)
   && decide ((e :: []).length+([]:List Keyword).length+(if ([]:List Keyword).isEmpty then 0 else 1)<30))=true:=by rfl)
  (hline:(apos.endLine == cpos.line)=true:=by rfl) (hst:starEach (e :: []) X.env=(false,eval e X.env)::starEach [] X.env:=by rfl) (hplain:(backTo cpos (starEach [] X.env)).any (·.1)=false:=by rfl)
  (hs:swapsWith (.Call (.Attribute (.Name x p1) "append" apos) [e] [] cpos) none pos.line X.env=pure false:=by rfl):DS X (.Expr (.Call (.Attribute (.Name x p1) "append" apos) [e] [] cpos) pos) (zkm j i sp t) :=
 DS.of (ze3 (zcj PySem.F.plainAttrs_list PySem.F.slot_list_append PySem.F.type_list_append jw (wu (i:=j) hN hv hd hcd) (yo P wb hst) hbase hfew hline hst hplain) hs) λσ H H₀ σD Dn ok q=>by
  unfold zkm at q
  split at q
  ·next xs eo=>
   obtain⟨a,vs,e1,e2,r,n⟩:=ok.ownL eo;refine⟨.ref a,e1,.inl ⟨rfl,vs,SqL.of e2⟩,ziz ok q λv H' d σD' ok' pr rp qd=>?_⟩
   split at qd
   ·next ys ey=>
    obtain⟨a',ws,e1',e2',r',n'⟩:=ok'.ownL ey;rw[e1]at e1'
    cases e1';exact⟨a,ws,v,rfl,rfl,e2',by rw[<-r'.length];exact qd.1,_,ok'.write ey e1 e2' (r'.append (.cons rp .nil)),pr.trans (vo e2' rfl),qd.2⟩
   ·exact qd.elim
  ·exact q.elim
end
end L2
namespace SQ
open PySem PyProof.Rows
set_option autoImplicit false
def zub(h:Heap)(v:Value)(is:List Int):Prop:=∃a its n t u js,v=.ref a/\IsTup h a its/\its.toList = [.int n t,u]/\RefIs h u js/\is=n::js
open Classical in
theorem zoz:∀as bs:List Int,HT.lexLt as bs=decide (as<bs)
 |[],[]=>by simp[HT.lexLt]
 |[],b::bs=>by simp[HT.lexLt]
 |a::as,[]=>by simp[HT.lexLt]
 |a::as,b::bs=>by
  rw[HT.lexLt_cons]
  by_cases c:a=b
  ·subst c;rw[if_pos rfl,zoz as bs];exact decide_eq_decide.mpr (by rw[List.cons_lt_cons_iff];simp)
  ·rw[if_neg c];exact decide_eq_decide.mpr (by rw[List.cons_lt_cons_iff];simp[c])
section
variable {prog:Program}{w:World}{A:Around}{E:Value->Shared->Prop}{s:Shared}
theorem items_int{vs:List Value}{ns:List Int}(h:IntsAre vs ns):ItemsAre (intKind prog w) ns vs:=by
 induction h with
 |nil=>exact .nil
 |cons n t h ih=>exact .cons (by simp[intKind,Value.isInt]) ih
theorem zq6{u v:Value}{js ks:List Int}{Q:Bool->Shared->Prop}(hu:A.units<cLine)(h1:RefIs s.heap u js)(h2:RefIs s.heap v ks)(h:Q (decide (js=ks)) s):wpAny (model prog w) A (eqBool u v) Q E s:=by
 obtain⟨a,ia,rfl,⟨oa,ga,ca,na,da⟩,ta⟩:=h1;obtain⟨b,ib,rfl,⟨ob,gb,cb,nb,db⟩,tb⟩:=h2;exact wpAny_eqBool_tuple (knd:=intKind prog w) hu ⟨oa,ia,na,ga,ca,da,items_int ta⟩ ⟨ob,ib,nb,gb,cb,db,items_int tb⟩ h
theorem All2.perm{α β:Type}{R:α->β->Prop}{as' as:List α}(p:as'.Perm as):∀{bs:List β},All2 R as bs->∃bs',All2 R as' bs'/\bs'.Perm bs:=by
 induction p with
 |nil=>intro bs h;exact⟨bs,h,.refl _⟩
 |cons x p ih=>
  intro bs h
  cases h with
  |cons h t=>
   obtain⟨bs',h',p'⟩:=ih t;exact⟨_,.cons h h',p'.cons _⟩
 |swap x y l=>
  intro bs h
  cases h with
  |cons h t=>
   cases t with
   |cons h2 t=>exact⟨_,.cons h2 (.cons h t),.swap _ _ _⟩
 |trans p1 p2 ih1 ih2=>
  intro bs h;obtain⟨b1,h1,q1⟩:=ih2 h;obtain⟨b2,h2,q2⟩:=ih1 h1;exact⟨b2,h2,q2.trans q1⟩
theorem All2.pair{α β:Type}{R:α->β->Prop}{T:α->α->Prop}{U:β->β->Prop}(f:∀a b a' b',R a b->R a' b'->T a a'->U b b'){as:List α}{bs:List β}(h:All2 R as bs)(p:as.Pairwise T):bs.Pairwise U:=by
 induction h with
 |nil=>exact .nil
 |@cons a b as bs h t ih=>
  rw[List.pairwise_cons]at p ⊢;refine⟨λb' hb=>?_,ih p.2⟩;have:∀{as:List α}{bs:List β},All2 R as bs->b'∈bs->∃a'∈as,R a' b':=λ{as bs} h=>by
   induction h with
   |nil=>intro z;cases z
   |cons h _ ih=>
    intro z;rcases List.mem_cons.mp z with rfl|z
    ·exact⟨_,List.mem_cons_self,h⟩
    ·obtain⟨a',m,r⟩:=ih z;exact⟨a',List.mem_cons_of_mem _ m,r⟩
  obtain⟨a',m,r⟩:=this t hb;exact f _ _ _ _ h r (p.1 a' m)
end
end SQ
namespace L2
open PySem PySem.Spec PyProof.Rows SQ
def zfv(X:Cx)(pins:List (Addr×Obj))(σ:St)(f:Addr)(x:V)(H:Hp)(k:D):Prop :=
 ∀(ps:List (Addr×Obj)) (s:Shared) (H1:Hp) (u:Value),Inv X (pins++ps) σ H1 s->Same H H1->RelV x u ->
  wpAny (model X.prog X.w) X.A.in1.in1 (call (.ref f) [u]) (λkv s'=>∃H2 v,RelV v kv/\Rep X.K H2 k v/\Inv X (pins++ps) σ H2 s'/\Same H1 H2) (λ_ _=>False) s
def kL(l:Int×List Int):List Int:=l.1::l.2
def kyD(l:Int×List Int):D:=.tuple [.int l.1,tD l.2]
section
variable {X:Cx}{pins:List (Addr×Obj)}{σ:St}{H:Hp}{s:Shared}
theorem zkn{l:Int×List Int}{v:V}{u:Value}(I:Inv X pins σ H s)(r:Rep X.K H (kyD l) v)(q:RelV v u):zub s.heap u (kL l):=by
 cases r with
 |tup h r=>
  cases q;obtain⟨its,rv,ht,_⟩:=I.tuple h
  cases r with
  |cons r1 r2=>
   cases r1
   cases rv with
   |cons q1 q2=>
    obtain⟨t,rfl⟩:=q1;have rf:=j1 I (tss:=[l.2]) r2 q2
    cases rf with
    |cons rf z=>cases z;exact⟨_,_,l.1,t,_,l.2,rfl,ht,rfl,rf,rfl⟩
end
end L2
namespace L2
open PySem PySem.Spec PyProof.Rows
theorem CalleeX.calm{P:Program}{w:World}{K:PySem.W.Frag}{mg:Str->Option Value}{base:Heap}{k:Nat}{x:Str}{ps:List Str}{sp:zg5}(C:CalleeX P w K mg base k x ps (kz K sp)):ym P w K mg base k x ps (yf K λws Q=>sp ws Q λ_=>False):=by
 obtain⟨f,fd,F,r⟩:=C;have up:∀{vs:List V}{H:Hp}{Q:VK}{E:XK},yf K (λws Q=>sp ws Q λ_=>False) vs H Q E->kz K sp vs H Q λ_ _ _=>False:=λ{vs H Q E} h=>by
  obtain⟨ws,QD,rp,z,kk⟩:=h;exact⟨ws,QD,λ_=>False,rp,z,kk,λc od H' ⟨_,_,_,_,_,_,h⟩=>h⟩
 refine⟨f,fd,⟨λvs H Q E h=>F.len vs H Q _ (up h),λA outer s H args us vs Q E hr e0 hb rv h=>?_⟩,r⟩;refine codeAny_mono (F.run A outer s H args us vs Q _ hr e0 hb rv (up h)) λr s' z=>?_
 cases r with
 |ok fl=>cases fl <;> exact z
 |error e=>obtain⟨_,_,_,_,_,_,_,_,_,_,_,_,h⟩:=z;exact h.elim
section
variable {X:Cx}
theorem zo0{L:List Str}{CK:Addr}{k kg k' i:Nat}{g n kn:Str}{ps pg:List Str}{sp:zg5}{spg:DSp}{t:DTP}{e:Expr}{es:List Expr}{kp0 hpos gp np gpos rpos2 cpos:Pos}{f:Addr}{fd:FuncData}{pins:List (Addr×Obj)}{s:Shared}{σ:St}{H H₀:Hp}{σD:DSt}{Dn:qc}
  (F:FnOk X.prog X.w X.K X.mg X.base (CXk X.prog X.w) k f fd ps (kz X.K sp)) (b:Binds X.K fd ps []) (kp:PySem.W.keepIn X.K (.ref f)=true) (G:za3 X.prog X.w X.K X.mg X.base kg g pg (yf X.K spg)) (hr:Room k' X.A) (hm:X.mg kn=some (.ref CK)) (hL:∀y∈L,∀D,PySem.W.nsIn X.K mainGlobals y=some (some (.ref D))->zqq X.K CK D)
  (hN:X.N.Nodup) (hi:X.N[i]?=some n) (hl:X.env.scope.names.lookup n=some .local) (hgg:Gl X g) (hgk:Gl X kn) (hX:X.stack=X.env::X.outer) (hF:X.env.frame=some X.env.locals) (ha:DPs X (e::es) t)
  (hk:k<=k') (hkg:kg<=k') (hdg:(g ==("__debug__" : Str))=false) (hdk:(kn ==("__debug__" : Str))=false)
  (hdn:(n ==("__debug__" : Str))=false) (hcn:(n ==("__classdict__" : Str))=false)
  (he:starEach (e::es) X.env=(false,eval e X.env)::starEach es X.env) (hpl:(backTo cpos (starEach es X.env)).any (·.1)=false) (hnox:X.xe=λ_ _=>False)
  (I:Inv X pins σ H s) (ok:DOk X.K H₀ H σD σ) (q:t σD λws=>sp ws (λr=>Dn.rt r) λx=>x.1∈L/\spg [.exc x] λr=>Dn.rt r) :
  wpAny (model X.prog X.w) X.A (callWith cpos (.ref f) [] (backTo cpos (starEach (e::es) X.env)) (backToKw cpos (keywordEach [] X.env))) (λv s'=>DSP X pins H₀ H Dn (Flow.ret v) s')
   (λer s1=>wpAny (model X.prog X.w) X.A (noteFrame er X.env) (λ_ s2=>wpAny (model X.prog X.w) X.A (setFlight er none) (λ_ s3=>wpAny (model X.prog X.w) X.A (handleBy er X.env [.ExceptHandler (some (.Name kn kp0)) (some n) [.Return (some (.Call (.Name g gp) [.Name n np] [] gpos)) rpos2] hpos]) (DSP X pins H₀ H Dn) X.xe s3) X.xe s2) X.xe s1) s:=by
 refine PySem.W.callWith_K (h₀:=X.base) I.ok.mod.kin kp (wpAny_mono (ha.run cpos pins s σ H H₀ σD _ I ok q) (λus s1 ⟨vs,H1,ws,I1,r,s01,rp,q1⟩=>⟨I1.kIn,?_⟩) (λ_ _ z=>by rw[hnox]at z;exact False.elim z)) he hpl;have hlen:us.length=ps.length:=by
  rw[<-r.length];exact F.len vs H1 (λ_ _=>True) (λ_ _ _=>True) ⟨ws,_,_,rp,q1,λ_ _ _ _ _ _=>trivial,λ_ _ _ _=>trivial⟩
 have bb:BindsTo s1 fd ⟨us,[]⟩ (ps.zip us):=by
  have:=b s1 us I1.kIn (by rw[List.append_nil];exact hlen);rw[List.append_nil]at this;exact this
 refine wpAny_call (codeAny_mono (F.run X.A X.stack s1 H1 ⟨us,[]⟩ us vs (λv H'=>∃r,Same H1 H'/\zax X.K H1 H' r v/\Dn.rt r) (XE X.K H1 λx=>x.1∈L/\spg [.exc x] λr=>Dn.rt r) (hr.mono hk) I1.env0 bb r
  ⟨ws,_,_,rp,q1,λv H' r sm rr qq=>⟨r,sm,rr,qq⟩,λ_ _ _ z=>z⟩) λres s' hq=>?_)
 have back:∀{H':Hp}{r:Ret}{v:V},Same H1 H'->zax X.K H1 H' r v->zax X.K H₀ H' r v:=λ{H' r v} sm rr=>by
  cases r with
  |val d=>exact rr
  |new xs=>obtain⟨a,vs,e1,nn,e2,r⟩:=rr;exact⟨a,vs,e1,(ok.same.trans s01).free nn,e2,r⟩
 cases res with
 |error er=>
  refine zt5 (i:=i) I1 hX hF hq hgk hm hdk hN hi hl λD od H' hE=>?_;obtain⟨x,D',eD,hns,sm,fx,hxL,hsp⟩:=hE
  cases eD;refine⟨hL x.1 hxL D hns,λa fr s2 J=>?_⟩;have sm2:Same H' (upd H' a (zbh D od a)):=zy fr _;have hiσ:i<σ.length:=by rw[I.len];exact(List.getElem?_eq_some_iff.mp hi).1
  have body:=ze2 (X:=X.held (.ref a)) (zbe (pos:=rpos2) (zoj (X:=X.held (.ref a)) (p:=gp) (pos:=gpos) G (hr.r0.mark _) hgg (yo (wu (X:=X.held (.ref a)) (i:=i) (pos:=np) hi (.inl hl) hdn hcn) wb) hkg hdg rfl rfl));refine wpAny_mono (body pins s2 _ _ { nx:=λ_ _=>False,rt:=λv H3=>∃r,Same (upd H' a (zbh D od a)) H3/\zax X.K (upd H' a (zbh D od a)) H3 r v/\Dn.rt r } J ?_) (λfl s3 z=>?_) λ_ _ z=>z
  ·refine⟨.ref a,List.getElem?_set_self hiσ,[.exc x],_,.cons ⟨a,D,od,rfl,hns,zj,?_⟩ .nil,hsp,λv H3 r sm3 rr qq=>⟨r,sm3,rr,qq⟩⟩;rcases fx with fx |⟨d,ed,fx⟩
   ·exact .inl fx
   ·exact .inr ⟨d,ed,sm2 _ _ fx⟩
  ·cases fl with
   |next=>obtain⟨_,_,_,z⟩:=z;exact z.elim
   |brk=>obtain⟨_,_,_,z⟩:=z;exact False.elim z
   |cont=>obtain⟨_,_,_,z⟩:=z;exact False.elim z
   |ret u=>
    obtain⟨v,σ3,H3,J3,rv,r,sm3,rr,qq⟩:=z;refine⟨σ3,H3,J3.unheld I.ok,λs4 J4=>⟨v,_,H3,r,J4,rv,ok.same.trans (s01.trans (sm.trans (sm2.trans sm3))),?_,qq⟩⟩
    cases r with
    |val d=>exact rr
    |new xs=>obtain⟨b',vs',e1,nn,e2,r⟩:=rr;exact⟨b',vs',e1,(ok.same.trans (s01.trans (sm.trans sm2))).free nn,e2,r⟩
 |ok fl=>
  cases fl with
  |ret u=>
   obtain⟨v,H',J,rv,r,sm,rr,qq⟩:=I1.after hq;exact⟨v,σ,H',r,J,rv,ok.same.trans (s01.trans sm),back sm rr,qq⟩
  |next=>exact False.elim hq
  |brk=>exact False.elim hq
  |cont=>exact False.elim hq
def zko(L:List Str)(j:Nat)(sp0 sp1:zg5)(spg:DSp)(t:DTP):DTS:=λDn σ=>match σ[j]? with
 |some (some (.val (.int w)))=>(w=0/\t σ λws=>sp0 ws (λr=>Dn.rt r) λx=>x.1∈L/\spg [.exc x] λr=>Dn.rt r)\/(w=1/\t σ λws=>sp1 ws (λr=>Dn.rt r) λx=>x.1∈L/\spg [.exc x] λr=>Dn.rt r)
 |_=>False
theorem zkp{L:List Str}{CK:Addr}{k0 k1 kg k' i j:Nat}{x0 x1 g n kn y:Str}{ps0 ps1 pg:List Str}{sp0 sp1:zg5}{spg:DSp}{t:DTP}{e:Expr}{es:List Expr}{p0 p1 lp yp sp' kp0 hpos gp np gpos rpos rpos2 cpos pos:Pos}
  (C0:CalleeX X.prog X.w X.K X.mg X.base k0 x0 ps0 (kz X.K sp0)) (C1:CalleeX X.prog X.w X.K X.mg X.base k1 x1 ps1 (kz X.K sp1)) (G:za3 X.prog X.w X.K X.mg X.base kg g pg (yf X.K spg)) (hr:Room k' X.A) (hm:X.mg kn=some (.ref CK)) (hL:∀y∈L,∀D,PySem.W.nsIn X.K mainGlobals y=some (some (.ref D))->zqq X.K CK D)
  (hN:X.N.Nodup) (hi:X.N[i]?=some n) (hl:X.env.scope.names.lookup n=some .local) (hj:X.N[j]?=some y) (hg0:Gl X x0) (hg1:Gl X x1) (hgg:Gl X g) (hgk:Gl X kn) (hX:X.stack=X.env::X.outer) (hF:X.env.frame=some X.env.locals) (ha:DPs X (e::es) t)
  (hk0:k0<=k':=by decide) (hk1:k1<=k':=by decide) (hkg:kg<=k':=by decide) (hd0:(x0 ==("__debug__" : Str))=false:=by decide) (hd1:(x1 ==("__debug__" : Str))=false:=by decide) (hdg:(g ==("__debug__" : Str))=false:=by decide) (hdk:(kn ==("__debug__" : Str))=false:=by decide)
  (hdn:(n ==("__debug__" : Str))=false:=by decide) (hcn:(n ==("__classdict__" : Str))=false:=by decide) (hv:Vis X.env.scope y:=by first|exact Or.inl rfl|exact Or.inr (Or.inl rfl)|exact Or.inr (Or.inr rfl)) (hdy:(y ==("__debug__" : Str))=false:=by decide) (hcy:(y ==("__classdict__" : Str))=false:=by decide)
  (he:starEach (e::es) X.env=(false,eval e X.env)::starEach es X.env:=by rfl) (hpl:(backTo cpos (starEach es X.env)).any (·.1)=false:=by rfl) (hnox:X.xe=λ_ _=>False:=by rfl) :
  DS X (.Try [.Return (some (.Call (.Subscript (.List [.Name x0 p0,.Name x1 p1] lp) (.Name y yp) sp') (e::es) [] cpos)) rpos] [.ExceptHandler (some (.Name kn kp0)) (some n) [.Return (some (.Call (.Name g gp) [.Name n np] [] gpos)) rpos2] hpos] [] [] pos) (zko L j sp0 sp1 spg t):=⟨λpins s σ H H₀ σD Dn I ok q=>by
 obtain⟨f0,fd0,F0,b0,kp0',m0⟩:=C0;obtain⟨f1,fd1,F1,b1,kp1',m1⟩:=C1;unfold zko at q
 split at q
 ·next w ew=>
  obtain⟨vw,e1,rw'⟩:=ok.val ew
  cases rw';refine wpAny_Try_except (wpAny_execs_cons (wpAny_Return_some ?_));show wpAny _ _ (eval (.Subscript (.List [.Name x0 p0,.Name x1 p1] lp) (.Name y yp) sp') X.env >>= _) _ _ s;have P:PE X (.Subscript (.List [.Name x0 p0,.Name x1 p1] lp) (.Name y yp) sp') _:=zaw ix_list (zh0 (yo (xy (v:=.ref f0) hg0 m0 rfl hd0) (yo (xy (v:=.ref f1) hg1 m1 rfl hd1) wb rfl) rfl)) (wu (i:=j) hj hv hdy hcy) (λ_ _=>rfl);have fin:∀{k f fd ps sp} (F:FnOk X.prog X.w X.K X.mg X.base (CXk X.prog X.w) k f fd ps (kz X.K sp)) (b:Binds X.K fd ps []) (kp:PySem.W.keepIn X.K (.ref f)=true) (hk:k<=k') (q:t σD λws=>sp ws (λr=>Dn.rt r) λx=>x.1∈L/\spg [.exc x] λr=>Dn.rt r) (s1:Shared) (H1:Hp),Inv X pins σ H1 s1->Same H H1 ->
    wpAny (model X.prog X.w) X.A (callWith cpos (.ref f) [] (backTo cpos (starEach (e::es) X.env)) (backToKw cpos (keywordEach [] X.env))) (λv s'=>DSP X pins H₀ H Dn (Flow.ret v) s')
     (λer s1=>wpAny (model X.prog X.w) X.A (noteFrame er X.env) (λ_ s2=>wpAny (model X.prog X.w) X.A (setFlight er none) (λ_ s3=>wpAny (model X.prog X.w) X.A (handleBy er X.env [.ExceptHandler (some (.Name kn kp0)) (some n) [.Return (some (.Call (.Name g gp) [.Name n np] [] gpos)) rpos2] hpos]) (DSP X pins H₀ H Dn) X.xe s3) X.xe s2) X.xe s1) s1:=λF b kp hk q s1 H1 I1 sm=>by
   refine wpAny_mono (zo0 (i:=i) (kp0:=kp0) (hpos:=hpos) (gp:=gp) (np:=np) (gpos:=gpos) (rpos2:=rpos2) F b kp G hr hm hL hN hi hl hgg hgk hX hF ha hk hkg hdg hdk hdn hcn he hpl hnox I1 (ok.after sm) q) (λv s' z=>z.back sm.pers) λer s' z=>?_;refine wpAny_mono z (λ_ s2 z=>wpAny_mono z (λ_ s3 z=>wpAny_mono z (λfl s4 z=>z.back sm.pers) λ_ _ z=>z) λ_ _ z=>z) λ_ _ z=>z
  have go:∀(f:Addr),atI [V.ref f0,V.ref f1] w=some (V.ref f)->wpAny (model X.prog X.w) X.A (eval (.Subscript (.List [.Name x0 p0,.Name x1 p1] lp) (.Name y yp) sp') X.env) (λu s1=>u=.ref f/\∃H1,Inv X pins σ H1 s1/\Same H H1) (λ_ _=>False) s:=λf ha=>by
   refine wpAny_mono (P pins s σ H (λv H'=>v=.ref f/\Same H H') I ?_) (λu s1 ⟨v,H1,I1,r1,e2,sm⟩=>?_) (λ_ _ z=>by rw[hnox]at z;exact z.elim)
   ·exact⟨by simp[sizeLine_eq],λp hp=>⟨_,e1,p,_,w,_,rfl,rfl,SqL.of zj,ha,rfl,zy hp _⟩⟩
   ·subst e2;exact⟨r1,H1,I1,sm⟩
  rcases q with⟨rfl,q⟩ |⟨rfl,q⟩
  ·refine wpAny_bind (wpAny_mono (go f0 rfl) (λu s1 ⟨eu,H1,I1,sm⟩=>?_) λ_ _ z=>z.elim);subst eu;exact fin F0 b0 kp0' hk0 q s1 H1 I1 sm
  ·refine wpAny_bind (wpAny_mono (go f1 rfl) (λu s1 ⟨eu,H1,I1,sm⟩=>?_) λ_ _ z=>z.elim);subst eu;exact fin F1 b1 kp1' hk1 q s1 H1 I1 sm
 ·exact q.elim⟩
end
section
variable {X:Cx}{pins:List (Addr×Obj)}{σ:St}{H:Hp}{s:Shared}{P c:Addr}{q:Str}
theorem zl7{clos:List (Str×Addr)}{params:Arguments}{body:Expr}{scope:Scope}{pos:Pos}{fl:Nat}{E:Value->Shared->Prop}{Q:Value->Shared->Prop}(I:Inv X pins σ H s)(hT:zab q P H)(C:PySem.W.CodeHd X.base c P)(hcode:X.env.code=.ref c)(hB:jk X.mg X.base)
  (hcl:closureFor scope X.env=pure clos)
  (h:∀(f c':Addr) (oc:Obj) (u:HO) (ctv:Value) (H':Hp) (s':Shared),Inv X pins σ H' s'->Same H H'->H' c'=some (.frz oc u)->zjf oc q->s.heap.objs.size<=f->s'.heap.objs.size<=f+1->H' f=none ->
   s'.heap.get? f=some (PySem.W.kla_obj "<lambda>" q params body scope clos ((X.mg "__name__").getD .none) c' ctv)->Q (.ref f) s') :
  wpAny (model X.prog X.w) X.A (makeFunction "<lambda>" q params (.expr body) scope X.env [] [] [] pos fl) Q E s:=by
 obtain⟨ps,gP,tr,ent⟩:=I.tabOk hT;have hPn:H P≠none:=by obtain⟨t,m,e⟩:=hT;rw[e];simp
 cases hc:codeAmong pos ps.toList with
 |none=>
  refine PySem.W.kla_makeFunction (mg:=X.mg) hcl I.ok.glob (I.mod.glob.keeps I.bk) hcode (C.keeps I.bk) gP tr hc (I.globNe hPn) (I.bltAt hB hPn) λc' ctv h' tk hx hge hlt hrec htb=>?_;obtain⟨c2,oc,vs,tq,e2,hoc,hd,hv⟩:=hrec
  cases e2;have fr:H c'=none:=I.hok.fresh hge;have pu:∀b o,h'.get? b=some o->(h'.push (PySem.W.kla_obj "<lambda>" q params body scope clos ((X.mg "__name__").getD .none) c' ctv)).get? b=some o:=λb o e=>Heap.get?_push_of_some _ e;have nP:∀b,H b=none->b≠P:=λb n z=>hPn (z ▸ n);have neC:∀b o,s.heap.get? b=some o->b≠c':=λb o e=>Nat.ne_of_lt (Nat.lt_of_lt_of_le (Heap.lt_size e) hge);have sH:Same H (upd H c' (.frz oc (.own 0))):=λb o e=>by rw[zn (z9 e fr)];exact e
  have un:Un X.fs [] H (upd H c' (.frz oc (.own 0))) s.heap (h'.push (PySem.W.kla_obj "<lambda>" q params body scope clos ((X.mg "__name__").getD .none) c' ctv)):=by
   refine⟨λb o e n _ _=>pu _ _ (hx b o (nP b n) e),λb o e n _ _=>⟨o.slots,pu _ _ (hx b o (nP b n) e)⟩,λb o e n _=>by rw[zn (neC b o e)];exact n,λb o e _=>?_,λb xs e=>sH b _ e,λb o u e=>sH b _ e,λb ls e=>⟨#[],by rw[sH b _ e];simp⟩⟩
   by_cases z:b=P
   ·rw[z];exact⟨_,pu _ _ htb⟩
   ·exact⟨o,pu _ _ (hx b o z e)⟩
  have hk:HOk X.prog X.w (upd H c' (.frz oc (.own 0))) (h'.push (PySem.W.kla_obj "<lambda>" q params body scope clos ((X.mg "__name__").getD .none) c' ctv)):=λb u e=>by
   by_cases z:b=c'
   ·subst z;rw[zj]at e
    cases e;exact⟨pu _ _ hoc,_,pu _ _ hoc⟩
   ·rw[zn z]at e
    by_cases zP:b=P
    ·subst zP;obtain⟨t,m,e'⟩:=hT;rw[e']at e
     cases e;obtain⟨ps',q',t',lab,r1,_,_⟩:=(show zf7 H s.heap b _ from I.hok b _ e')
     have q1:=zkf lab
     cases q1;refine⟨_,q,_,lab,pu _ _ htb,by rw[Array.toList_append];exact TriplesOk_snoc _ _ _ _ tr,λpos' cv y=>?_⟩;rw[Array.toList_append]at y;rcases zi0 _ tr y with y|rfl
     ·obtain⟨c3,o3,u3,r1,r2,r3⟩:=ent _ _ y;exact⟨c3,o3,u3,r1,sH _ _ r2,r3⟩
     ·exact⟨c',oc,_,rfl,zj,vs,tq,hd,hv⟩
    ·refine(I.hok b u e).stay (λd v hd' g=>pu _ _ (hx d v ?_ g)) (λd g=>sH _ _ g) (λd xs g=>sH _ _ g) λd o u g=>sH _ _ g;rcases hd' with rfl|hd'
     ·exact zP
     ·rintro rfl;obtain⟨t,m,e'⟩:=hT;rw[e']at hd'
      cases hd'
  refine h _ c' oc (.own 0) ctv _ _ (I.un (t':=tk) un hk) sH zj ⟨vs,tq,hd,hv⟩ (Nat.le_trans hge (Nat.le_of_lt hlt)) (Nat.le_of_eq (Heap.size_push ..)) ?_ (Heap.get?_push_size _ rfl);rw[zn (Nat.ne_of_gt hlt)];exact I.hok.fresh (Nat.le_trans hge (Nat.le_of_lt hlt))
 |some cv=>
  obtain⟨c',oc,u,rfl,e,co⟩:=ent _ _ hc;refine PySem.W.kla_makeFunctionHit (mg:=X.mg) hcl I.ok.glob (I.mod.glob.keeps I.bk) hcode (C.keeps I.bk) gP tr hc (I.bltAt hB hPn) λctv h' tk hk hsz=>?_;exact h _ c' oc u ctv H _ (I.kept (t':=tk) λb o g=>Heap.get?_push_of_some _ (hk b o g)) (Same.refl _) e co hsz (Nat.le_of_eq (Heap.size_push ..)) (I.hok.fresh hsz) (Heap.get?_push_size _ rfl)
end
def zc7(q:Str)(scope:Scope)(L f:Addr)(cd:Value)(clos:List (Str×Addr)):Env:=newEnv scope L mainGlobals clos (q ++ ".<locals>.") (some f) cd none builtinsNs
def zl8(P:Program)(w:World)(K:PySem.W.Frag)(mg:Str->Option Value)(base:Heap)(N:List Str)(q:Str)(scope:Scope)(f:Addr)(cd:Value)(clos:List (Str×Addr))(A:Around)(outer:List Env)(s:Shared)(H:Hp)(E:XK):Cx where
 prog:=P
 w:=w
 K:=K
 mg:=mg
 base:=base
 A:=A.deeper (zc7 q scope s.heap.objs.size f cd clos)
 N:=N
 s₀:=s
 H₀:=H
 env:=zc7 q scope s.heap.objs.size f cd clos
 outer:=outer
 stack:=zc7 q scope s.heap.objs.size f cd clos::outer
 ex:=[]
 calm:=true
 fn:=λ_=>false
 pn:=[]
 xe:=λe s'=>wpAny (model P w) (A.deeper (zc7 q scope s.heap.objs.size f cd clos)) (leaving (zc7 q scope s.heap.objs.size f cd clos) e) (λ_ s''=>CX0 outer H s E e s'') (λe' s''=>CX0 outer H s E e' s'') s'
structure za5(y n:Str)(sc:Scope):Prop where
 kind:sc.kind=.function
 co:sc.isCoroutine=false
 gen:sc.isGenerator=false
 ne:y≠n
 loc:sc.names.lookup y=some .local
 fre:sc.names.lookup n=some .free
 only:∀x∈sc.names,x.2 ≠ .cell/\(x.2=.free->x.1=n)
theorem zi6{P:Program}{w:World}{K:PySem.W.Frag}{mg:Str->Option Value}{base:Heap}{y n q:Str}{scope:Scope}{f c:Addr}{cd:Value}{A:Around}{outer:List Env}{s:Shared}{h':Heap}{tk:Nat}{H:Hp}{E:XK}{u un:Value}{v vn:V}
  (S:za5 y n scope) (hd:A.handled=none) (e0:Env0 P w K mg base A outer s H) (r:RelV v u) (rn:RelV vn un) (hc:s.heap.IsCell c (some un)) (fc:H c=none)
  (hns:h'.Ns s.heap.objs.size (λx=>[(y,u)].reverse.lookup x)) (hk:∀b o,s.heap.get? b=some o->h'.get? b=some o) :
  Inv (zl8 P w K mg base [y,n] q scope f cd [(n,c)] A outer s H E) [] [some v,some vn] H { s with heap:=h',toks:=tk }:=by
 have noA:∀b:Addr,b∉(zl8 P w K mg base [y,n] q scope f cd [(n,c)] A outer s H E).ex:=λb z=>absurd (show b∈([]:List Addr) from z) (by simp);have look:∀x c',([(n,c)]:List (Str×Addr)).lookup x=some c'->x=n/\c'=c:=λx c' h=>by
  rw[List.lookup_cons]at h
  cases e:(x == n) with
  |true=>rw[e]at h;exact⟨eq_of_beq e,(Option.some.inj h).symm⟩
  |false=>rw[e]at h;cases h
 have hcell:h'.IsCell c (some un):=by obtain⟨o,ho,hd⟩:=hc;exact⟨o,hk _ _ ho,hd⟩
 refine⟨⟨e0.mod,S.kind,rfl,rfl,Nat.le_refl _,λx z c' h1 h2=>?_,λx hx=>?_,λx c' hf h=>(by cases hf),λ_=>hd,Around.frames_deeper e0.frames,.inr ⟨rfl,rfl⟩,λb z=>absurd z (noA b),e0.bs,e0.bsz,λb _ _=>noA b,λb z=>absurd z (noA b),e0.funs,e0.frf⟩,
  rfl,e0.bare,Un.kept hk,⟨_,hns,λi x v' h1 h2 h3=>?_⟩,λx c' h=>?_,e0.hok.fresh (Nat.le_refl _),λx c' h=>?_,λp hp=>absurd (show p∈([]:List (Addr×Obj)) from hp) (by simp),e0.hok.kept hk,rfl⟩
 ·exact(look x c' h1).1.trans (look z c' h2).1.symm
 ·have hx:scope.names.lookup x=some .cell\/scope.names.lookup x=some .free:=hx;rcases hx with hx|hx
  ·exact absurd rfl (S.only _ (PySem.mem_of_lookup hx)).1
  ·have:=(S.only _ (PySem.mem_of_lookup hx)).2 rfl;have e:x=n:=this;exact⟨c,by show List.lookup x [(n,c)]=some c;rw[e];simp⟩
 ·match i,h1,h2 with
  |0,h1,h2=>
   cases h1
   cases h2;exact⟨u,r,.inl ⟨S.loc,by simp⟩⟩
  |1,h1,h2=>
   cases h1
   cases h2;exact⟨un,rn,.inr ⟨.inr S.fre,c,by show List.lookup n [(n,c)]=some c;simp,hcell⟩⟩
  |i+2,h1,h2=>cases h2
 ·rw[(look x c' h).2];exact⟨_,hcell⟩
 ·rw[(look x c' h).2];exact fc
theorem zo1{P:Program}{w:World}{K:PySem.W.Frag}{mg:Str->Option Value}{base:Heap}{k:Nat}{f c' c:Addr}{q y n:Str}{params:Arguments}{body:Expr}{scope:Scope}{pm ctv:Value}{A:Around}{outer:List Env}{s:Shared}{H:Hp}
  {u un:Value}{v vn:V}{Q:VK}{E:XK}{t:TE} (hr:Room (k+1) A) (e0:Env0 P w K mg base A outer s H) (lk:s.heap.get? f=some (PySem.W.kla_obj "<lambda>" q params body scope [(n,c)] pm c' ctv)) (hcd:s.heap.CodeRec (.ref c') q) (S:za5 y n scope)
  (hb:bindArgs (PySem.W.kla_fn "<lambda>" q params body scope [(n,c)] pm (.ref c') ctv) ⟨[u],[]⟩=pure [(y,u)]) (r:RelV v u) (rn:RelV vn un) (hc:s.heap.IsCell c (some un)) (fc:H c=none)
  (ht:PE (zl8 P w K mg base [y,n] q scope f (.ref c') [(n,c)] A outer s H E).nox body t) (hq:t [some v,some vn] H Q):codeAny (model P w) A (.call (.ref f) ⟨[u],[]⟩) (CR CX0 outer P w H s Q E) s:=by
 have lim:s.heap.NoLimit:=e0.mod.nolimit.keeps λb o e=>(e0.bs b o e).1;refine PySem.W.kla_callFunE hr.depth lk rfl S.co S.gen rfl hcd (wpAny_of_eq hb ?_);refine wpAny_newFunctionEnv (λx hx=>(S.only x hx).1) (λx hx=>by rw[List.mem_singleton.mp hx];exact S.loc) (λh' hns hsb=>?_) S.kind;have hk:∀b o,s.heap.get? b=some o->h'.get? b=some o:=λb o e=>(hsb.2 b (Nat.ne_of_lt (Heap.lt_size e))).trans (Heap.get?_push_of_some _ e);refine⟨lim.keeps hk,PySem.W.kla_codeExpr ?_⟩;have I:Inv (zl8 P w K mg base [y,n] q scope f (.ref c') [(n,c)] A outer s H E) [] [some v,some vn] H { s with heap:=h',toks:=s.toks + [(y,u)].length }:=zi6 S hr.hd e0 r rn hc fc hns hk;exact wpAny_mono (ht.nox [] _ _ H _ I hq) (λu s' ⟨v,H',J,rv,qv⟩=>⟨v,H',J.os,J.bare,J.base,J.hok,rv,qv⟩) λe s' hs=>hs
section
variable {X:Cx}{e:Expr}{i:Nat}{te:DTE}{sp:zhc}{t:zhd}{pos:Pos}
def zq8:zhc:=λwp o wq Q=>∃(xs:List D) (i:Int) (k:Nat) (d:D),wp = []/\wq = [.val (.int i)]/\o=.lst xs/\-(2 ^ 63)<=i/\i<2 ^ 63/\seqIndex? i xs.length=some k/\xs[k]?=some d/\Q d (.lst (xs.eraseIdx k))
def zfw(i:Nat)(te:DTE):zhd:=λσ Q=>match σ[i]? with
 |some (some (.own (.lst _)))=>te σ λd=>Q [] [.val d]
 |_=>False
theorem DOk.popped{K:PySem.W.Frag}{H H₀:Hp}{σD:DSt}{σ:St}{o:O}{xs:List D}(ok:DOk K H₀ H σD σ)(eo:σD[i]?=some (some (.own o)))(eb:o.bare=.lst xs):
  ∃a vs,σ[i]?=some (some (.ref a))/\H a=some (.lst vs)/\Reps K H xs vs/\∀ys ws,Reps K H ys ws->DOk K H₀ (upd H a (.lst ws)) (clr (σD.set i (some (.own (o.with (.lst ys)))))) σ/\Pers H (upd H a (.lst ws)):=by
 obtain⟨v,f,ev,rO,nf,fr,put⟩:=ok.focus eo;have rb:=rO.bare;rw[eb]at rb;obtain⟨a,vs,rfl,rfl,e,r⟩:=rb;refine⟨a,vs,ev,e,r,λys ws rw'=>?_⟩;exact put (upd H a (.lst ws)) (o.with (.lst ys)) [a] (λb u hb hu=>by rw[zn (λz=>hb (by rw[z];exact List.mem_cons_self))];exact hu) nf (λb hb=>.inl hb)
  (rO.with ⟨a,ws,rfl,rfl,zj,rw'.mono (vo e rfl)⟩)
theorem zo2(i:Nat){x:Str}{p1 apos cpos:Pos}(he:DE X e te)(hN:X.N[i]?=some x:=by rfl)(hv:Vis X.env.scope x:=by first|exact Or.inl rfl|exact Or.inr (Or.inl rfl)|exact Or.inr (Or.inr rfl))(hd:(x ==("__debug__" : Str))=false:=by decide)
  (hcd:(x ==("__classdict__" : Str))=false:=by decide)
  (hbase:attributeBase (.Name x p1) "pop" X.env (eval (.Name x p1) X.env)=eval (.Name x p1) X.env:=by rfl)
  (hfew:((backTo cpos (starEach (e :: []) X.env)).all (λx=>!x.1) && (backToKw cpos (keywordEach [] X.env)).all (λx=>x.1.isSome)
   && decide ((e :: []).length+([]:List Keyword).length+(if ([]:List Keyword).isEmpty then 0 else 1)<30))=true:=by rfl)
  (hline:(apos.endLine == cpos.line)=true:=by rfl) (hst:starEach (e :: []) X.env=(false,eval e X.env)::starEach [] X.env:=by rfl) (hplain:(backTo cpos (starEach [] X.env)).any (·.1)=false:=by rfl) :
  PE X (.Call (.Attribute (.Name x p1) "pop" apos) [e] [] cpos) (ziy X.K i zq8 (zfw i te)):=by
 intro pins s σ H Q I zz;obtain⟨H₀,σD,o,QD,ok,eo,q,kq⟩:=zz;have P:=zcj PySem.F.plainAttrs_list PySem.F.slot_list_pop PySem.F.type_list_pop zmy (wu (i:=i) (pos:=p1) hN hv hd hcd) (yo he.pe wb hst) hbase hfew hline hst hplain;unfold zfw at q;rw[eo]at q
 cases o with
 |lst xs0=>
  obtain⟨a0,vs0,ev0,ea0,_⟩:=ok.ownL eo;refine P pins s σ H Q I ⟨.ref a0,ev0,.inl ⟨rfl,vs0,SqL.of ea0⟩,H₀,σD,_,ok,q,λv H1 d s1 r1 q1=>?_⟩;obtain⟨_,_,xs,ix,k,d',_,ew,eb,h1,h2,hk,hx,qd⟩:=q1
  cases ew
  cases r1;obtain⟨a,vs,ev,ea,r,put⟩:=(ok.after s1).popped eo eb;rw[ev0]at ev
  cases ev;obtain⟨y,ey,ry⟩:=r.get hx;obtain⟨ok2,pr⟩:=put (xs.eraseIdx k) (vs.eraseIdx k) (r.eraseIdx k);exact⟨a0,vs,ix,k,y,rfl,rfl,ea,h1,h2,by rw[<-r.length];exact hk,ey,kq y _ d' _ ok2 (s1.pers.trans pr) (ry.mono pr) qd⟩
 |_=>exact q.elim
end
end L2
namespace L2
open PySem PySem.Spec PyProof.Rows SQ
section
variable {X:Cx}{pins:List (Addr×Obj)}{σ:St}{H:Hp}{s:Shared}
theorem zq9{l:List Int}{v:V}{u:Value}(I:Inv X pins σ H s)(r:Rep X.K H (tD l) v)(q:RelV v u):RefIs s.heap u l:=by
 have:=j1 I (tss:=[l]) (.cons r .nil) (.cons q .nil)
 cases this with
 |cons h _=>exact h
abbrev zkq(K:PySem.W.Frag)(H:Hp)(h:Heap)(kf:D->List Int)(p:Keyed)(q:V×D):Prop:=RelV q.1 p.2/\Rep K H q.2 q.1/\refKey h p.1=some (kf q.2)
theorem zr0{kf:D->List Int}(I:Inv X pins σ H s):∀{ds:List D}{us ks:List Value}{vs kvs:List V},Vals vs us->Reps X.K H ds vs->Vals kvs ks->Reps X.K H (ds.map λd=>tD (kf d)) kvs->All2 (zkq X.K H s.heap kf) (ks.zip us) (vs.zip ds)
 |[],us,ks,vs,kvs,h1,h2,h3,h4=>by
  cases h2
  cases h1;simp only[List.zip_nil_right];exact .nil
 |d::ds,us,ks,vs,kvs,h1,h2,h3,h4=>by
  cases h2 with
  |cons r rs=>
   cases h1 with
   |cons q qs=>
    cases h4 with
    |cons r' rs'=>
     cases h3 with
     |cons q' qs'=>exact .cons ⟨q,r,zbp (zq9 I r' q')⟩ (zr0 I qs rs qs' rs')
theorem zl9{kf:D->List Int}{h:Heap}{ps:List Keyed}{qs:List (V×D)}(a:All2 (zkq X.K H h kf) ps qs):Vals (qs.map (·.1)) (ps.map (·.2))/\Reps X.K H (qs.map (·.2)) (qs.map (·.1)):=by
 induction a with
 |nil=>exact⟨.nil,.nil⟩
 |cons z _ ih=>exact⟨.cons z.1 ih.1,.cons z.2.1 ih.2⟩
theorem zo3{a kS f:Addr}{e1:Nat}{us:List Value}{vs:List V}{ds:List D}{kf:D->List Int}{R:PySem.Fin->Shared->Prop}{E:Value->Shared->Prop}(I:Inv X pins σ H s)(rv:Vals vs us)(rd:Reps X.K H ds vs)
  (hk:∀(i:Nat) (x:V) (d:D),vs[i]?=some x->ds[i]?=some d->zfv X pins σ f x H (tD (kf d))) (fa:FpOk X pins H a) (fk:FpOk X pins H kS) (ne:kS≠a) (ga:s.heap.get? a=some (seqObj "list" #[] e1)) (gk:s.heap.get? kS=some (seqObj "list" #[] 0)) (h64:us.length<64) (hne:∀d∈ds,kf d ≠ [])
  (hR:∀(s':Shared) (H':Hp) (out:Array Value) (c:Nat) (vs':List V) (ds':List D),Inv X pins σ H' s'->Same H H'->FpOk X pins H' a->s'.heap.get? a=some (seqObj "list" out c)->Vals vs' out.toList->Reps X.K H' ds' vs'->ds'.Perm ds->ds'.Pairwise (λx y=>¬ (kf y)<(kf x))->R (.done (.ret .none)) s') :
  wpAny (model X.prog X.w) X.A.in1.in1 (ksk_rest a (.ref f) false us.toArray e1 (.ref kS)) R E s:=by
 have lv:=rv.length;have ld:=rd.length;unfold ksk_rest;refine wpAny_bind (wpAny_rule ?_)
 first
  |rw[List.forIn_toArray]
  |(rw[<-Array.forIn_toList];simp only[List.toList_toArray])
  |rw[<-Array.forIn_toList]
 refine wpAny_bind (ksk_fold (λi s'=>∃H1 kA e kvs,Inv X pins σ H1 s'/\Same H H1/\s'.heap.get? kS=some (seqObj "list" kA e)/\s'.heap.get? a=some (seqObj "list" #[] e1)/\Vals kvs kA.toList/\Reps X.K H1 ((ds.take i).map λd=>tD (kf d)) kvs/\FpOk X pins H1 kS/\FpOk X pins H1 a) us 0 s
  ⟨H,#[],0,[],I,Same.refl _,gk,ga,.nil,.nil,fk,fa⟩ ?step ?done)
 case step=>
  rintro j x s' hx ⟨H1,kA,e,kvs,I1,sm,gk1,ga1,kv,kr,fk1,fa1⟩;simp only[Nat.zero_add]at kr ⊢;have hj:j<us.length:=(List.getElem?_eq_some_iff.mp hx).1;obtain⟨v,hv⟩:∃v,vs[j]?=some v:=⟨_,List.getElem?_eq_getElem (by omega)⟩
  obtain⟨x',hx',ru⟩:=rv.get hv;rw[hx]at hx'
  cases hx';obtain⟨d,hd,_⟩:=rd.get' hv;have sz:kA.size<=us.length:=by
   have h1:kvs.length=kA.size:=kv.length.trans Array.length_toList;have h2:min j ds.length=kvs.length:=by rw[<-kr.length,List.length_map,List.length_take]
   omega
  have I2:=zwm I1 fk1 fa1 gk1 ga1 (λv z=>by cases z) (λv z=>by cases z);refine wpAny_bind (wpAny_attempt (wpAny_mono (hk j v d hv hd _ s' H1 x I2 sm ru) (λkvv s2 ⟨H2,w,rw1,rp,J,sm2⟩=>?_) λ_ _ z=>z.elim));have p1:=J.pin (kS,seqObj "list" kA e) (List.mem_append_right _ (List.mem_append_right _ (.head _)));have p2:=J.pin (a,seqObj "list" #[] e1) (List.mem_append_right _ (List.mem_append_right _ (.tail _ (.head _))));have J':=J.unpinned;have ek:((ds.take (j+1)).map λd=>tD (kf d))=((ds.take j).map λd=>tD (kf d)) ++ [tD (kf d)]:=by rw[List.take_add_one,hd];simp
  refine wpAny_bind (listUpdate_at p1.1 rfl ?_ (by rw[sizeLine_eq];omega) (Nat.le_trans (Nat.le_of_eq (Array.size_push ..)) (by rw[sizeLine_eq];omega)));refine wpAny_pure ⟨rfl,H2,kA.push kvv,_,kvs ++ [w],(fk1.at p1.2.1).inv (t':=s2.toks) J' (λb o n e=>(Heap.get?_update_other _ _ (Ne.symm n)).trans e),sm.trans sm2,get?_update_seq p1.1 (·.push kvv),(Heap.get?_update_other _ _ ne).trans p2.1,?_,?_,fk1.at p1.2.1,fa1.at p2.2.1⟩
  ·rw[Array.toList_push];exact kv.append (.cons rw1 .nil)
  ·rw[ek];exact(kr.same sm2).append (.cons rp .nil)
 case done=>
  rintro s' ⟨H1,kA,e,kvs,I1,sm,gk1,ga1,kv,kr,fk1,fa1⟩;rw[Nat.zero_add,List.take_of_length_le (by omega)]at kr;have sz:kA.size=us.length:=by
   have h1:kvs.length=kA.size:=kv.length.trans Array.length_toList;have h2:ds.length=kvs.length:=by rw[<-kr.length,List.length_map]
   omega
  have z3:=zr0 I1 rv (rd.same sm) kv kr;have pz:(kA.zip us.toArray).size=us.length:=by rw[Array.size_zip,sz,List.size_toArray,Nat.min_self]
  have zl:(kA.zip us.toArray).toList=kA.toList.zip us:=ksk_zip kA us;have tl:∀st:SortSt,(arrOf st).Perm (kA.zip us.toArray)->SortedToK (zdp s'.heap) (arrOf st) (kA.zip us.toArray).size->failedOf st=none->wpAny (model X.prog X.w) X.A.in1.in1 (ksk_tail a false e1 (.ref kS) st) R E s':=λst hp hs hf=>by
   have ga2:(s'.heap.update kS (Obj.mapSeq λ_=>(#[]:Array Value))).get? a=some (seqObj "list" #[] e1):=(Heap.get?_update_other _ _ ne).trans ga1;have osz:((arrOf st).map (·.2)).size=us.length:=by rw[Array.size_map,hp.size_eq,pz]
   have pl:=Array.perm_iff_toList_perm.mp hp;rw[zl]at pl;obtain⟨qs,a2,pq⟩:=z3.perm pl;obtain⟨v2,r2⟩:=zl9 a2;have pw:(arrOf st).toList.Pairwise λp q=>(zdp s'.heap).kle ((refKey s'.heap p.1).getD []) ((refKey s'.heap q.1).getD []):=by
    rw[List.pairwise_iff_getElem];intro i j h1 h2 hij;have h1':i<(arrOf st).size:=by simpa using h1
    have h2':j<(arrOf st).size:=by simpa using h2
    have:=hs i j (Nat.le_of_lt hij) (by rw[<-hp.size_eq];exact h2');unfold KK at this;rw[Array.getElem?_eq_getElem h1',Array.getElem?_eq_getElem h2']at this;simpa using this
   have pd:(qs.map (·.2)).Perm ds:=by
    have:=pq.map (·.2)
    rwa [show(vs.zip ds).map (·.2)=ds by rw[List.map_snd_zip (by omega)]]at this
   unfold ksk_tail
   try dsimp only
   refine wpAny_bind (listUpdate_at gk1 rfl ?_ (by rw[sz,sizeLine_eq];omega) (Nat.zero_le _));refine wpAny_bind (wpAny_letGo ?_);refine wpAny_bind (seqEpoch_at ga2 rfl ?_);simp only[Bool.false_eq_true,if_false];refine wpAny_bind (listUpdate_at ga2 rfl ?_ (Nat.zero_le _) (Nat.le_trans (Nat.le_of_eq osz) (by rw[sizeLine_eq];omega)));rw[hf];simp only[bne_self_eq_false,Bool.false_eq_true,if_false];have I2:=fk1.inv (t':=s'.toks) I1 (h':=s'.heap.update kS (Obj.mapSeq λ_=>(#[]:Array Value))) λb o n e=>(Heap.get?_update_other _ _ (Ne.symm n)).trans e;have I3:=fa1.inv (t':=s'.toks) I2 (h':=(s'.heap.update kS (Obj.mapSeq λ_=>(#[]:Array Value))).update a (Obj.mapSeq λ_=>(arrOf st).map (·.2))) λb o n e=>(Heap.get?_update_other _ _ (Ne.symm n)).trans e;refine wpAny_pure (hR _ H1 _ _ (qs.map (·.1)) (qs.map (·.2)) I3 sm fa1 (get?_update_seq ga2 λ_=>(arrOf st).map (·.2)) ?_ r2 pd ?_)
   ·rw[Array.toList_map];exact v2
   ·rw[List.pairwise_map];refine a2.pair (λp q p' q' h1 h2 t=>?_) pw;rw[h1.2.2,h2.2.2]at t;simpa[KeyOrd.kle]using t
  refine wpAny_bind (listItems_at gk1 rfl ?_);unfold ksk_end
  try dsimp only
  simp only[Bool.false_eq_true,if_false];have rfs:All2 (RefIs s'.heap) kA.toList (ds.map kf):=j1 I1 (tss:=ds.map kf) (by rw[List.map_map];exact kr) kv
  by_cases c:us.toArray.size<2
  ·rw[if_pos c,if_pos c];refine wpAny_bind (wpAny_pure ?_);rw[StateT.run_pure];refine wpAny_bind (wpAny_pure ?_)
   try dsimp only
   refine tl (SortSt.mk' general' (kA.zip us.toArray) #[] 7 none) (Array.Perm.refl _) (λi j hij hj=>?_) rfl;rw[pz]at hj;rw[List.size_toArray]at c;have:i=j:=by omega
   subst this;exact KeyOrd.kle_refl _
  ·rw[if_neg c,if_neg c];rw[List.size_toArray]at c;refine wpAny_bind ?_;rw[<-Array.toArray_toList (xs:=kA)];refine zeo rfs (λt ht=>by obtain⟨d,hd,rfl⟩:=List.mem_map.mp ht;exact hne d hd) (by rw[Array.length_toList];omega) ?_
   refine wpAny_bind (wpAny_mono (zbx (κ:=zdp s'.heap) (kd:=tuples' true) (a₀:=kA.zip us.toArray) (st:=SortSt.mk' (tuples' true) (kA.zip us.toArray) #[] 7 none)
    (Q:=λ_ st'=>(arrOf st').Perm (kA.zip us.toArray)/\failedOf st'=none/\SortedToK (zdp s'.heap) (arrOf st') (kA.zip us.toArray).size) (zj8 λ_ _ e=>e)
    (λp hp=>?_) ⟨Array.Perm.refl _,rfl,rfl⟩ rfl (by rw[pz];omega) (by rw[pz];exact h64) λst' g' s'=>⟨g'.perm,g'.fail,s'⟩) ?_ λ_ _ e=>e)
   ·rw[zl]at hp;obtain⟨b,_,z⟩:=z3.mem hp;exact⟨_,z.2.2⟩
   ·rintro ⟨⟨⟩,st'⟩ s'' ⟨rfl,hp,hf,hs⟩;exact tl st' hp hs hf
theorem zi7{A:Around}{E:Value->Shared->Prop}{Q:List Value->Shared->Prop}{r:Addr}{j:Int}{t u v:Tok}{n:Nat}(hh:A.handled=none)(hr:IsRange s.heap r 0 j 1 t u v)(hs:Builtin.Range.small 0 j 1=true)(hn:Builtin.Range.rangeSize 0 j 1=n)(hl:n<=2 ^ 24)
  (q:∀h' tk (acc:Array Value),(∀b o,s.heap.get? b=some o->h'.get? b=some o)->ItemsOf (λi v=>∃t,v=.int (0+i * 1) t) acc n->Q acc.toList { s with heap:=h',toks:=tk }):wpAny (model X.prog X.w) A (collect (.ref r)) Q E s:=by
 unfold collect;refine wpAny_bind (wpAny_runValue (codeAny_builtin PySem.F.entry_proto_collect ?_));rw[Around.under_plainId PySem.F.plain_proto_collect _];show wpAny _ A.in1 (newList [] >>= λz=>again (.builtin "list.__iadd__" ⟨[z,.ref r],[]⟩)) _ _ s;refine wpAny_bind (wpAny_newObj_type ?_);refine wpAny_pure ⟨plainId_quiet PySem.F.plain_list_iadd _,codeAny_builtin PySem.F.entry_list_iadd ?_⟩;rw[Around.under_plainId PySem.F.plain_list_iadd _];show wpAny _ A.in1 (Builtin.List.listExtendWith (.ref s.heap.objs.size) (.ref r) (.ref s.heap.objs.size)) _ _ _;have g1:(s.heap.push { cls:=.type "list",data:=.seq ([]:List Value).toArray }).get? s.heap.objs.size=some { cls:=.type "list",data:=.seq #[] 0 }:=Heap.get?_push_size _ rfl;refine wpAny_mono (wpAny_extend_range (A:=A) (R:=λr' s'=>r'=.ok (.ret (.ref s.heap.objs.size))/\∃h' tk acc c',s' = { s with heap:=h',toks:=tk }/\(∀b o,s.heap.get? b=some o->h'.get? b=some o)/\h'.get? s.heap.objs.size=some { cls:=.type "list",dict:=none,data:=.seq acc c',slots:=#[] }/\ItemsOf (λi v=>∃t,v=.int (0+i * 1) t) acc n)
  (s:={ s with heap:=s.heap.push { cls:=.type "list",data:=.seq ([]:List Value).toArray } }) hh (Heap.get?_push_of_some _ hr) hs hn hl _ _ 0 g1 λh' tk acc c' hk hS hi=>⟨rfl,h',tk,acc,c',rfl,λb o e=>hk b o (Nat.ne_of_lt (Heap.lt_size e)) (Heap.get?_push_of_some _ e),hS,hi⟩) (λf s' z=>?_) (λe s' z=>absurd z.1 (by simp))
 have fin:∀s',(∃h' tk acc c',s' = { s with heap:=h',toks:=tk }/\(∀b o,s.heap.get? b=some o->h'.get? b=some o)/\h'.get? s.heap.objs.size=some { cls:=.type "list",dict:=none,data:=.seq acc c',slots:=#[] }/\ItemsOf (λi v=>∃t,v=.int (0+i * 1) t) acc n)->wpAny (model X.prog X.w) A (match Value.ref s.heap.objs.size with
   |Value.ref z=>do
    match (<-load z).data with
     |Data.seq ys _=>pure ys.toList
     |_=>unsupported "internal:collect"
   |_=>unsupported "internal:collect") Q E s':=by
  rintro _ ⟨h',tk,acc,c',rfl,hk,hS,hi⟩;show wpAny _ A (load s.heap.objs.size >>= _) _ _ _;exact wpAny_bind (wpAny_load hS (wpAny_pure (q h' tk acc hk hi)))
 cases f with
 |done f=>
  obtain⟨e,z⟩:=z
  cases e;exact fin _ z
 |again c'=>exact⟨z.1,codeAny_mono z.2 λr s2 y=>by obtain⟨rfl,z⟩:=y;exact fin _ z⟩
theorem zi8{f r:Addr}{j:Int}{t u v:Tok}{kf:D->List Int}{Q:Value->Shared->Prop}(hh:X.A.handled=none)(I:Inv X pins σ H s)
  (hr:IsRange s.heap r 0 j 1 t u v) (h0:0<=j) (h64:j<64) (hne:∀d∈xb 0 j.toNat,kf d ≠ [])
  (hk:∀(x:V) (d:D) (H':Hp),d∈xb 0 j.toNat->Rep X.K H d x->zfv X pins σ f x H (tD (kf d)))
  (hR:∀(a:Addr) (s':Shared) (H':Hp) (vs':List V) (ds':List D),Inv X pins σ H' s'->Same H H'->H a=none->H' a=some (.lst vs')->Reps X.K H' ds' vs'->ds'.Perm (xb 0 j.toNat)->ds'.Pairwise (λx y=>¬ kf y<kf x)->Q (.ref a) s') :
  wpAny (model X.prog X.w) X.A (call (.builtin "sorted") [.ref r] [(Str.ofString "key",.ref f)]) Q X.xe s:=by
 refine call_function_entry_kw kind_sorted plain_sorted entry_sorted (ksk_s1 _ _) ?_;unfold Builtin.«sorted»;refine wpAny_bind (m:=checkCount "sorted" 1 1 _) (wpAny_pure ?_);refine wpAny_bind (zi7 (X:=X) (A:=X.A.in1) (n:=j.toNat) hh hr (small_one (by omega) (by omega) (by omega) (by omega)) (by rw[rangeSize_one];split <;> omega) (by omega) λh' tk acc hk' hacc=>?_);have I':Inv X pins σ H { s with heap:=h',toks:=tk }:=I.kept hk';have rv:=zgz hacc;have rd:Reps X.K H (xb 0 j.toNat) ((List.range j.toNat).map λi:Nat=>V.int i):=zcw _;have lz:acc.toList.length=j.toNat:=by rw[<-rv.length];simp
 have hz:acc.toList.length<=sizeLine:=by rw[sizeLine_eq];omega
 generalize hus:acc.toList=us at rv lz hz;refine wpAny_bind (wpAny_newList ?_ hz);generalize hs1:({ s with heap:=h',toks:=tk }:Shared)=s1 at I';have e1h:h'=s1.heap:=by rw[<-hs1]
 have e1t:tk=s1.toks:=by rw[<-hs1]
 show wpAny _ _ _ _ _ { s1 with heap:=s1.heap.push (seqObj "list" us.toArray 0) };have gL:(s1.heap.push (seqObj "list" us.toArray 0)).get? s1.heap.objs.size=some (seqObj "list" us.toArray 0):=Heap.get?_push_size _ rfl;have eL:(s1.heap.push (seqObj "list" us.toArray 0)).objs.size=s1.heap.objs.size+1:=size_push' ..;have k2:∀b o,s1.heap.get? b=some o->(s1.heap.push (seqObj "list" us.toArray 0)).get? b=some o:=λb o e=>Heap.get?_push_of_some _ e;generalize hh1:s1.heap.push (seqObj "list" us.toArray 0)=h1 at gL eL k2;refine wpAny_bind (wpAny_holding (wpAny_call_entry_kw slot_list_sort ⟨_,gL,rfl⟩ entry_list_sort ?_ (ksk_l1 _ _)));show wpAny (model X.prog X.w) X.A.in1.in1 (Builtin.«list.sort» ⟨[.ref s1.heap.objs.size],[(Str.ofString "key",.ref f)]⟩) _ _ _;rw[ksk_t1];unfold ksk_tree;have h0':X.s₀.heap.get? s1.heap.objs.size=none:=Heap.get?_none_of_le I'.sz;have fa:FpOk X pins H s1.heap.objs.size:=I'.fpOk (Nat.le_refl _) (I'.hok.fresh (Nat.le_refl _));have fk:FpOk X pins H (s1.heap.objs.size+2):=I'.fpOk (by omega) (I'.hok.fresh (by omega));have ne:s1.heap.objs.size+2≠s1.heap.objs.size:=by omega
 have old:∀b o,s1.heap.get? b=some o->b≠s1.heap.objs.size:=λb o e=>Nat.ne_of_lt (Heap.lt_size e);generalize ha:s1.heap.objs.size=a at gL fa ne old h0' eL fk;refine wpAny_bind (listItems_at gL rfl ?_);refine wpAny_bind (listUpdate_at gL rfl ?_ (by simpa using hz) (Nat.zero_le _));obtain⟨e1,g1⟩:∃e1,(h1.update a (Obj.mapSeq λ_=>#[])).get? a=some (seqObj "list" #[] e1):=⟨_,get?_update_seq gL (λ_=>#[])⟩
 refine wpAny_bind (seqEpoch_at g1 rfl ?_);refine wpAny_bind (wpAny_newTuple ?_ (by simpa using hz));refine wpAny_bind (wpAny_newList ?_ (Nat.zero_le _));refine wpAny_holding ?_;have eK:((h1.update a (Obj.mapSeq λ_=>#[])).push (seqObj "tuple" us.toArray 0)).objs.size=a+2:=by rw[size_push',Heap.size_update,eL]
 have gK:(((h1.update a (Obj.mapSeq λ_=>#[])).push (seqObj "tuple" us.toArray 0)).push (seqObj "list" #[] 0)).get? (a+2)=some (seqObj "list" #[] 0):=by rw[<-eK];exact Heap.get?_push_size _ rfl
 have gA:(((h1.update a (Obj.mapSeq λ_=>#[])).push (seqObj "tuple" us.toArray 0)).push (seqObj "list" #[] 0)).get? a=some (seqObj "list" #[] e1):=Heap.get?_push_of_some _ (Heap.get?_push_of_some _ g1);have I1:Inv X pins σ H { s1 with heap:=((h1.update a (Obj.mapSeq λ_=>#[])).push (seqObj "tuple" us.toArray 0)).push (seqObj "list" #[] 0),toks:=s1.toks }:=I'.kept λb o e=>Heap.get?_push_of_some _ (Heap.get?_push_of_some _ (by rw[Heap.get?_update_ne _ _ _ _ (old b o e)];exact k2 b o e));show wpAny _ _ (ksk_rest a (.ref f) false us.toArray e1 (.ref ((h1.update a (Obj.mapSeq λ_=>#[])).push (seqObj "tuple" us.toArray 0)).objs.size)) _ _ { s1 with heap:=((h1.update a (Obj.mapSeq λ_=>#[])).push (seqObj "tuple" us.toArray 0)).push (seqObj "list" #[] 0) };rw[eK];refine zo3 (kf:=kf) I1 rv rd (λi x d hx hd=>?_) fa fk ne gA gK (by omega) hne λs' H' out c vs' ds' J sm fa' g rv' rd' pm pw=>⟨_,rfl,?_⟩
 ·obtain⟨d',hd',rp⟩:=rd.get' hx;rw[hd]at hd'
  cases hd';exact hk x d H (List.mem_of_getElem? hd) rp
 refine wpAny_pure ⟨_,rfl,?_⟩;have lv:vs'.length<=sizeLine:=by rw[<-rd'.length,pm.length_eq,rd.length,rv.length];exact hz
 have J2:=J.track (o:=.lst vs') fa'.1 h0' fa'.2.1 fa'.2.2.2.2.1 fa'.2.2.2.2.2 ⟨lv,out.toList,c,rv',g⟩;exact hR a s' _ vs' ds' J2 (sm.trans (zy fa'.1 _)) (sm.free fa'.1) zj (rd'.same (zy fa'.1 _)) pm pw
end
section
variable {X:Cx}{a body:Expr}{ta:DTF}{tb:DTE}{p pos p2 pos2 kp lp:Pos}{k:Nat}{P c:Addr}{q y n:Str}{params:Arguments}{scope:Scope}
theorem zma{pins:List (Addr×Obj)}{σ:St}{H:Hp}{f c' cl:Addr}{oc:Obj}{u:HO}{pm ctv:Value}{x vn:V}{d dn kd:D}{i:Nat}(hr:Room (k+3) X.A)(S:za5 y n scope)
  (hN:X.N[i]?=some n) (hk:X.env.kindOf n=some .cell) (hcl:X.env.cells.lookup n=some cl) (hvis:Vis X.env.scope n)
  (hbd:∀(pm cd ctv u:Value),bindArgs (PySem.W.kla_fn "<lambda>" q params body scope [(n,cl)] pm cd ctv) ⟨[u],[]⟩=pure [(y,u)])
  (hb:∀(A:Around) (outer:List Env) (s:Shared) (H:Hp) (E:XK) (f:Addr) (cd:Value) (cs:List (Str×Addr)),Room k (A.deeper (zc7 q scope s.heap.objs.size f cd cs))->DE (zl8 X.prog X.w X.K X.mg X.base [y,n] q scope f cd cs A outer s H E).nox body tb)
  (hc':H c'=some (.frz oc u)) (co:zjf oc q) (rp:Rep X.K H d x) (hv:σ[i]?=some (some vn)) (rn:Rep X.K H dn vn) (hn:tb [some (.val d),some (.val dn)] λr=>r=kd) :
  zfv X (pins ++ [(f,PySem.W.kla_obj "<lambda>" q params body scope [(n,cl)] pm c' ctv)]) σ f x H kd:=λps s1 H1 u1 I1 sm ru=>by
 have pf:=I1.pin (f,PySem.W.kla_obj "<lambda>" q params body scope [(n,cl)] pm c' ctv) (List.mem_append_right _ (List.mem_append_left _ (List.mem_append_right _ (.head _))));obtain⟨vs,tq,hd,hv'⟩:=co;obtain⟨g,_⟩:=(show ObjOk X.prog X.w H1 s1.heap c' (.frz oc u) from I1.hok c' _ (sm _ _ hc'))
 obtain⟨mm,hns,hl⟩:=id I1.loc;obtain⟨un,rvn,lk⟩:=hl i n vn hN hv hvis;have cell:s1.heap.IsCell cl (some un):=by
  rcases lk with⟨z,_⟩ |⟨_,c2,e2,z⟩
  ·rw[hk]at z;cases z
  ·rw[hcl]at e2;cases e2;exact z
 have run:=zo1 (k:=k) (y:=y) (n:=n) (u:=u1) (un:=un) (v:=x) (vn:=vn) (Q:=λv H2=>Same H1 H2/\Rep X.K H2 kd v) (E:=E0) hr.in1.in1 I1.env0.in1.in1 pf.1 ⟨c',oc,vs,tq,rfl,g,hd,hv'⟩ S (hbd _ _ _ _) ru rvn cell (I1.freeC n cl hcl)
  (hb _ _ _ _ _ _ _ _ (hr.in1.in1.deeper _)).pe ⟨H1,[some (.val d),some (.val dn)],λr=>r=kd,DOk.begin (.cons (show zs1 X.K H1 (.val d) x from rp.same sm) (.cons (show zs1 X.K H1 (.val dn) vn from rn.same sm) .nil)) [y,n],hn,λv H' d' sm' rp' e=>by subst e;exact⟨sm',rp'⟩⟩
 refine wpAny_call (codeAny_mono run λr s' h=>?_)
 cases r with
 |error e=>exact False.elim h
 |ok fl=>
  cases fl with
  |ret u2=>
   obtain⟨v,H2,J,rv,sm2,e⟩:=I1.after h;exact⟨H2,v,rv,e,J,sm2⟩
  |next=>exact False.elim h
  |brk=>exact False.elim h
  |cont=>exact False.elim h
def zcb(i:Nat)(rb:D->D->(D->Prop)->Prop)(ta:DTF):DTF:=λσ Q=>match σ[i]? with
 |some (some (.val dn))=>ta σ λds=>match ds with
  |[.int j]=>0<=j/\j<64/\∃kf:D->List Int,(∀x∈xb 0 j.toNat,kf x ≠ []/\rb x dn λr=>r=tD (kf x))/\∀ys:List D,ys.Perm (xb 0 j.toNat)->ys.Pairwise (λx y=>¬ kf y<kf x)->Q ys
  |_=>False
 |_=>False
theorem zmb{i:Nat}{cl:Addr}(hc:X.calm=true)(hr:Room (k+3) X.A)(hg:Gl X "sorted")(hm:X.mg "sorted" = none)(hg2:Gl X "range")(hm2:X.mg "range" = none)(ha:DA X [a] ta)(hT:zab q P X.H₀)(C:PySem.W.CodeHd X.base c P)(hcode:X.env.code=.ref c)(hB:jk X.mg X.base)
  (hq:X.env.qual ++ "<lambda>" = q) (hclo:closureFor scope X.env=pure [(n,cl)]) (hdf:defaultsOf params X.env=([],[])) (S:za5 y n scope)
  (hN:X.N[i]?=some n) (hk:X.env.kindOf n=some .cell) (hcl:X.env.cells.lookup n=some cl) (hvis:Vis X.env.scope n)
  (hbd:∀(pm cd ctv u:Value),bindArgs (PySem.W.kla_fn "<lambda>" q params body scope [(n,cl)] pm cd ctv) ⟨[u],[]⟩=pure [(y,u)])
  (hb:∀(A:Around) (outer:List Env) (s:Shared) (H:Hp) (E:XK) (f:Addr) (cd:Value) (cs:List (Str×Addr)),Room k (A.deeper (zc7 q scope s.heap.objs.size f cd cs))->DE (zl8 X.prog X.w X.K X.mg X.base [y,n] q scope f cd cs A outer s H E).nox body tb)
  (he:starEach [.Call (.Name "range" p2) [a] [] pos2] X.env=(false,eval (.Call (.Name "range" p2) [a] [] pos2) X.env)::starEach [] X.env:=by rfl) (hs:starEach [a] X.env = [(false,eval a X.env)]:=by rfl) :
  DF X (.Call (.Name "sorted" p) [.Call (.Name "range" p2) [a] [] pos2] [⟨some (Str.ofString "key"),.Lambda params body scope lp,kp⟩] pos) (zcb i (λx dn=>tb [some (.val x),some (.val dn)]) ta) :=
 ⟨λpins s σ H H₀ σD Q I ok q0=>by
 unfold zcb at q0
 split at q0
 case h_2=>exact q0.elim
 next dn edn=>
 obtain⟨vn,evn,rn⟩:=ok.val edn;refine wpAny_Call_Name_kw (kc I hg hm boot_sorted ?_ (by decide) (by decide));refine callWith_kw ?_ (by rw[he];rfl) (by rw[he];rfl);rw[he];refine Calls.spliced_cons ?_;refine Call_ (kc I hg2 hm2 boot_range (PyProof.Rows.callWith_type1 (thn (ha.run pos2 pins s σ H H₀ σD _ I ok q0) λus s1 ⟨vs,H1,ds,I1,r1,sm1,rp1,q1⟩=>?_) hs rfl))
 match ds,q1,rp1 with
 |[.int j],q1,rp1=>
  obtain⟨h0,h64,kf,k1,k3⟩:=q1
  cases rp1 with
  |cons r rr=>
  cases rr;obtain⟨u',rfl,ru⟩:=r1.one
  cases r;obtain⟨t,rfl⟩:=ru;refine call_range_1 (Calls.spliced_nil ?_);have hR0:IsRange (s1.heap.push { cls:=.type "range",data:=.fields #[.int 0 s1.toks,.int j t,.int 1 (s1.toks+1)] }) s1.heap.objs.size 0 j 1 s1.toks t (s1.toks+1):=IsRange.new ..;have fr:H1 s1.heap.objs.size=none:=I1.hok.fresh (Nat.le_refl _);have fpr:=I1.fpOk (H':=H1) (Nat.le_refl _) fr;have I1':Inv X pins σ H1 { s1 with heap:=s1.heap.push { cls:=.type "range",data:=.fields #[.int 0 s1.toks,.int j t,.int 1 (s1.toks+1)] },toks:=s1.toks+2 }:=I1.kept λb o e=>Heap.get?_push_of_some _ e;generalize s1.heap.objs.size=r at hR0 fr fpr ⊢;have I1r:Inv X (pins ++ [(r,{ cls:=.type "range",data:=.fields #[.int 0 s1.toks,.int j t,.int 1 (s1.toks+1)] })]) σ H1 { s1 with heap:=s1.heap.push { cls:=.type "range",data:=.fields #[.int 0 s1.toks,.int j t,.int 1 (s1.toks+1)] },toks:=s1.toks+2 }:=I1'.pins_of λz hz=>by
   rcases List.mem_append.mp hz with hz|hz
   ·exact I1'.pin z (List.mem_append_right _ hz)
   ·rw[List.mem_singleton.mp hz];exact⟨hR0,fr,fpr.2.1,fpr.2.2.1,λv z=>by cases z⟩
  refine wpAny_evalAll_cons (wpAny_bind (PySem.W.kla_eval hdf ?_));rw[hq];refine zl7 I1r (I1r.tabAt hT) C hcode hB hclo λf c' oc u ctv H2 s2 I2 sm2 hc' co lf _ hf gf=>?_;refine wpAny_bind (wpAny_standAt (wpAny_pure (wpAny_evalAll_nil ?_)));have fp:=I1r.fpOk (H':=H2) lf hf;have I3:Inv X ((pins ++ [(r,{ cls:=.type "range",data:=.fields #[.int 0 s1.toks,.int j t,.int 1 (s1.toks+1)] })]) ++ [(f,PySem.W.kla_obj "<lambda>" q params body scope [(n,cl)] ((X.mg "__name__").getD .none) c' ctv)]) σ H2 s2:=I2.pins_of λz hz=>by
   rcases List.mem_append.mp hz with hz|hz
   ·exact I2.pin z (List.mem_append_right _ hz)
   ·rw[List.mem_singleton.mp hz];exact⟨gf,hf,fp.2.1,fp.2.2.1,λv z=>by cases z⟩
  have gr:=(I3.pin (r,{ cls:=.type "range",data:=.fields #[.int 0 s1.toks,.int j t,.int 1 (s1.toks+1)] }) (List.mem_append_right _ (List.mem_append_left _ (List.mem_append_right _ (.head _))))).1;refine zi8 (kf:=kf) (hr.hd:X.A.handled=none) I3 gr h0 h64 (λd hd=>(k1 d hd).1) (λx d _ hd rp=>?_) λa' s' H' vs' ds' J sm hn e rd' pm pw=>?_
  ·exact zma hr S hN hk hcl hvis hbd hb hc' co rp evn ((rn.same sm1).same sm2) (k1 d hd).2
  ·exact⟨a',H',vs',ds',rfl,J.unpinned.unpinned,sm1.trans (sm2.trans sm),sm1.free (sm2.free hn),e,rd',k3 ds' pm pw⟩⟩
end
end L2
namespace SQ
open PySem PyProof.Rows
open AutoSeq1 (wpAny_loadPart')
theorem zdq(l b:Addr)(N N2:Nat)(dd dd2:Option Addr)(sl sl2:Array (Option Value))(n m:Int)(t t':Tok)(u u':Value)(js ks:List Int):
  Meets (Builtin.«tuple.__lt__» ⟨[.ref l,.ref b],[]⟩)
   (λA R s=>s.heap.get? l=some { cls:=.type "tuple",dict:=dd,data:=.seq #[.int n t,u] N,slots:=sl }/\s.heap.get? b=some { cls:=.type "tuple",dict:=dd2,data:=.seq #[.int m t',u'] N2,slots:=sl2 } /\
    A.in1.units<cLine/\RefIs s.heap u js/\RefIs s.heap u' ks/\R (.ok (.ret (.bool (decide (n::js<m::ks))))) s) :=
 .of_wp λprog w A R s h=>by
  obtain⟨hp,g,d,tk,os⟩:=s;obtain⟨hl,hb,hu,r1,r2,h⟩:=h;have f2:=AutoSeq1.sub_tuple_tuple
  wp_walk using wpAny_loadPart' hl,wpAny_loadPart' hb,wpAny_forIn_list _ (λrest b s'=>b.1=none/\s'=⟨hp,g,d,tk,os⟩/\(rest = [(.int n t,.int m t'),(u,u')]\/(rest = [(u,u')]/\n=m)\/(rest = []/\n=m/\js=ks))) _
  case turn=>
   rintro ⟨y,x⟩ rest b s' ⟨hb',rfl,hz⟩;rcases hz with hz |⟨hz,e⟩ |⟨hz,_⟩
   ·injection hz with hyx hrest
    injection hyx with hy hx
    subst hy hx hrest;obtain⟨e,he,hiff⟩:=HT.eqAt_int A.in1 ⟨hp,g,d,tk,os⟩ n t m t';refine wpAny_bind (he prog w _ _ ?_)
    cases e with
    |true=>
     have e:=hiff.mp rfl
     wp_walk
     exact⟨rfl,rfl,.inr (.inl ⟨rfl,e⟩)⟩
    |false=>
     have ne:n≠m:=λq=>absurd (hiff.mpr q) Bool.false_ne_true;have hri:=HT.rcLt_int A.in1 ⟨hp,g,d,tk,os⟩ n t m t' prog w
     wp_walk using hri
     have e2:decide (n<m)=decide (n::js<m::ks):=decide_eq_decide.mpr (by rw[List.cons_lt_cons_iff];simp[ne]);exact⟨_,rfl,by rw[e2];exact h⟩
   ·injection hz with hyx hrest
    injection hyx with hy hx
    subst hy hx hrest;refine wpAny_bind (zq6 (prog:=prog) (w:=w) (A:=A.in1) (js:=js) (ks:=ks) hu r1 r2 ?_);subst e
    by_cases c:js=ks
    ·rw[decide_eq_true c]
     wp_walk
     exact⟨rfl,rfl,.inr (.inr ⟨rfl,rfl,c⟩)⟩
    ·rw[decide_eq_false c];obtain⟨a1,i1,rfl,pa,ta⟩:=r1;obtain⟨a2,i2,rfl,pb,tb⟩:=r2;have hri:∀(E:Value->Shared->Prop) (Q:Value->Shared->Prop),Q (.bool (HT.lexLt js ks)) ⟨hp,g,d,tk,os⟩->wpAny (model prog w) A.in1 (richCompare .Lt (.ref a1) (.ref a2)) Q E ⟨hp,g,d,tk,os⟩:=λE Q q=>HT.lt_tupInts pa pb ta tb hu q
     wp_walk using hri
     have e2:HT.lexLt js ks=decide (n::js<n::ks):=by
      rw[zoz];exact decide_eq_decide.mpr (by rw[List.cons_lt_cons_iff];simp)
     exact⟨_,rfl,by rw[e2];exact h⟩
   ·cases hz
  case fin=>
   rintro ⟨b1,b2⟩ s' ⟨hb',rfl,hz⟩;simp only at hb';subst hb';rcases hz with hz |⟨hz,e⟩ |⟨hz,e1,e2⟩
   ·cases hz
   ·cases hz
   ·subst e1 e2;have:decide (n::js<n::js)=false:=decide_eq_false (List.lt_irrefl _);rw[this]at h
    wp_walk
    exact⟨_,rfl,by simpa[Builtin.Tuple.tupleCompareSizes]using h⟩
  case h=>exact⟨rfl,rfl,.inl rfl⟩
theorem zo4{prog:Program}{w:World}{A:Around}{E:Value->Shared->Prop}{s:Shared}{u v:Value}{is ks:List Int}{Q:Value->Shared->Prop}(hu:A.units+64<cLine)(h1:zub s.heap u is)(h2:zub s.heap v ks)(h:Q (.bool (decide (is<ks))) s):
  wpAny (model prog w) A (richCompare .Lt u v) Q E s:=by
 obtain⟨a,its,n,t,u1,js,rfl,⟨⟨cls,dd,data,sl⟩,ho,hc,N,hd⟩,ei,r1,rfl⟩:=h1;obtain⟨b,its2,m,t',u2,ls,rfl,⟨⟨cls2,dd2,data2,sl2⟩,ho2,hc2,N2,hd2⟩,ei2,r2,rfl⟩:=h2;simp only at hc hd hc2 hd2;subst hc hd hc2 hd2;have za:its = #[.int n t,u1]:=by rw[<-Array.toArray_toList (xs:=its),ei]
 have zb:its2 = #[.int m t',u2]:=by rw[<-Array.toArray_toList (xs:=its2),ei2]
 subst za zb;exact richCompare_meets_room (op:=.Lt) ⟨_,ho,rfl⟩ ⟨_,ho2,rfl⟩ PySem.F.slot_tuple_lt PySem.F.entry_tuple_lt (PySem.F.args_tuple_lt_2 _ _) (zdq a b N N2 dd dd2 sl sl2 n m t t' u1 u2 js ls)
  ⟨ho,ho2,by show A.units+1<cLine;omega,r1,r2,show Value.bool _≠Value.notImplemented/\Q _ s from⟨(λx=>nomatch x),h⟩⟩ (by omega)
end SQ
namespace L2
open PySem PySem.Spec PyProof.Rows SQ
section
variable {X:Cx}{pins:List (Addr×Obj)}{σ:St}{H:Hp}{a it S:Addr}{xs:List V}{ls:List (Int×List Int)}{R:Value->Shared->Prop}
structure zwn(X:Cx)(pins:List (Addr×Obj))(σ:St)(H:Hp)(a it S:Addr)(xs:List V)(ls:List (Int×List Int))(j i:Nat)(s:Shared):Prop where
 I:Inv X pins σ H s
 st:s.heap.IsListIter it a j
 f1:FpOk X pins H it
 f2:FpOk X pins H S
 ne:it≠S
 best:∃vb c x,s.heap.get? S=some (seqObj "list" #[vb,vb] c)/\xs[i]?=some x/\RelV x vb
 lt:i<j
 mx:∀(j':Nat) l l',j' < j->ls[i]?=some l->ls[j']?=some l'->¬ kL l' < kL l
theorem zra(hc:X.calm=true)(hu:X.A.units+128<cLine)(hq:SqL X.K H a xs)(rp:Reps X.K H (ls.map kyD) xs)
  (hR:∀(i:Nat) (x:V) (l:Int×List Int) (vb:Value) (s':Shared),Inv X pins σ H s'->xs[i]?=some x->ls[i]?=some l->RelV x vb->(∀l'∈ls,¬ kL l' < kL l)->R vb s') :
  ∀(r j i:Nat) (s:Shared),xs.length-j=r->j<=xs.length->zwn X pins σ H a it S xs ls j i s ->
   codeAny (model X.prog X.w) X.A (.builtin "min.loop" ⟨[.ref it,.none,.ref S],[]⟩) (λr s'=>match r with|.ok (.ret v)=>R v s'|.ok _=>False|.error e=>X.xe e s') s:=by
 have nm:(toString "min" ++ toString ".loop" : String) = "min.loop" := by decide
 have ll:ls.length=xs.length:=by rw[<-rp.length,List.length_map]
 intro r
 induction r with
 |zero=>
  intro j i s e1 e2 h;have ej:j=xs.length:=by omega
  subst ej;obtain⟨I,st,f1,f2,ne,⟨vb,c,x,gS,hx,rx⟩,lt,mx⟩:=h;obtain⟨its,rv,p,hz⟩:=I.list hq;refine codeAny_builtin PySem.F.entry_min_loop ?_;rw[Around.under_plainId PySem.F.plain_min_loop _];show wpAny _ X.A.in1 (seqItems? (.ref S) >>= _) _ _ s;refine wpAny_bind (wpAny_seqItems gS rfl ?_);show wpAny _ X.A.in1 (tryCatch (pyNext (.ref it)) _ >>= _) _ _ s;have hl:=rv.length;refine wpAny_bind (wpAny_tryCatch (wpAny_pyNext_list_end (I.ok.hd hc) st p.isList (by simp;omega) λh' eb=>?_));have I1:Inv X pins σ H { s with heap:=h',toks:=s.toks }:=f1.inv I λb o hb e=>eb b o hb e;have gS':=eb S _ ne.symm gS;show wpAny _ X.A.in1 (updateSeq S (λ_=>#[]) >>= _) _ _ _;refine wpAny_bind (wpAny_updateSeq gS' rfl (wpAny_bind (wpAny_letGo (wpAny_pure ?_))));obtain⟨l,hl2⟩:∃l,ls[i]?=some l:=⟨_,List.getElem?_eq_getElem (by omega)⟩
  refine hR i x l vb _ (f2.inv (t':=s.toks) I1 λb o n e=>(Heap.get?_update_other _ _ (Ne.symm n)).trans e) hx hl2 rx λl' hl'=>?_;obtain⟨j',hj'⟩:=List.getElem?_of_mem hl';exact mx j' l l' (by have:=(List.getElem?_eq_some_iff.mp hj').1;omega) hl2 hj'
 |succ r ih=>
  intro j i s e1 e2 h;have lj:j<xs.length:=by omega
  obtain⟨I,st,f1,f2,ne,⟨vb,c,x,gS,hx,rx⟩,lt,mx⟩:=h;obtain⟨its,rv,p,hz⟩:=I.list hq;obtain⟨y,hy⟩:∃y,xs[j]?=some y:=⟨_,List.getElem?_eq_getElem lj⟩
  obtain⟨u,hu2,ru⟩:=rv.get hy;obtain⟨li,hli⟩:∃l,ls[i]?=some l:=⟨_,List.getElem?_eq_getElem (by omega)⟩
  obtain⟨lj2,hlj⟩:∃l,ls[j]?=some l:=⟨_,List.getElem?_eq_getElem (by omega)⟩
  refine codeAny_builtin PySem.F.entry_min_loop ?_;rw[Around.under_plainId PySem.F.plain_min_loop _];show wpAny _ X.A.in1 (seqItems? (.ref S) >>= _) _ _ s;refine wpAny_bind (wpAny_seqItems gS rfl ?_);show wpAny _ X.A.in1 (tryCatch (pyNext (.ref it)) _ >>= _) _ _ s;refine wpAny_bind (wpAny_tryCatch (wpAny_pyNext_list_item st p.isList (x:=u) (by simpa using hu2) λh' st' sb=>?_));have I1:Inv X pins σ H { s with heap:=h',toks:=s.toks }:=f1.inv I λb o hb e=>(sb.2 b hb).trans e;have gS':=(sb.2 S ne.symm).trans gS;obtain⟨oi,gi,ci,di⟩:=id st';have at1:∀(i:Nat) (x:V) (l:Int×List Int),xs[i]?=some x->ls[i]?=some l->Rep X.K H (kyD l) x:=λi x l h1 h2=>by
   obtain⟨d,hd,r⟩:=rp.get' h1;rw[List.getElem?_map,h2]at hd
   cases hd;exact r
  have k1:=zkn I1 (at1 j y lj2 hy hlj) ru;have k2:=zkn I1 (at1 i x li hx hli) rx;show wpAny _ X.A.in1 (tryCatch (holding [u,u] (richCompare .Lt u vb >>= _)) _ >>= _) _ _ _;refine wpAny_bind (wpAny_tryCatch (wpAny_holding (wpAny_bind (zo4 (by show X.A.units+1+64<cLine;omega) k1 k2 ?_))));refine wpAny_bind (wpAny_holding (wpAny_truthy_bool ?_));refine wpAny_bind (wpAny_letGo (wpAny_pure ?_))
  by_cases z:kL lj2<kL li
  ·simp only[z,decide_true,if_true];refine wpAny_bind (wpAny_updateSeq gS' rfl (wpAny_bind (wpAny_letGo ?_)));rw[nm];refine wpAny_pure ⟨plainId_quiet PySem.F.plain_min_loop _,ih (j+1) j _ (by omega) lj ⟨f2.inv (t':=s.toks) I1 λb o n e=>(Heap.get?_update_other _ _ (Ne.symm n)).trans e,⟨oi,(Heap.get?_update_other _ _ ne.symm).trans gi,ci,di⟩,f1,f2,ne,⟨u,_,y,Heap.get?_update_self _ gS' rfl,hy,ru⟩,Nat.lt_succ_self _,λj' l l' hj h1 h2=>?_⟩⟩;rw[hlj]at h1
   cases h1
   by_cases e:j'=j
   ·subst e;rw[hlj]at h2
    cases h2;exact List.lt_irrefl _
   ·have:=mx j' li l' (by omega) hli h2;exact λq=>this (List.lt_trans q z)
  ·simp only[z,decide_false,Bool.false_eq_true,if_false];refine wpAny_bind (wpAny_letGo ?_);rw[nm];refine wpAny_pure ⟨plainId_quiet PySem.F.plain_min_loop _,ih (j+1) i _ (by omega) lj ⟨I1,st',f1,f2,ne,⟨vb,c,x,gS',hx,rx⟩,by omega,λj' l l' hj h1 h2=>?_⟩⟩
   by_cases e:j'=j
   ·subst e;rw[hlj]at h2
    cases h2;rw[hli]at h1
    cases h1;exact z
   ·exact mx j' l l' (by omega) h1 h2
def zo5:List D->(D->Prop)->Prop
 |[.list ds],Q=>∃ls:List (Int×List Int),ds=ls.map kyD/\ls ≠ []/\∀l∈ls,(∀l'∈ls,¬ kL l' < kL l)->Q (kyD l)
 |_,_=>False
theorem zuc{k:Nat}(hc:X.calm=true)(hr:Room k X.A):CallD X (.builtin "min") zo5:=⟨λpins s σ H vs us ds Q I rv rd q=>by
 have nm:(toString "min" ++ toString ".loop" : String) = "min.loop" := by decide
 have hu:X.A.units+128<cLine:=by have:=hr.un;omega
 match ds,q,rd with
 |[.list ds],q,rd=>
  obtain⟨v,rfl,r⟩:=rd.one;obtain⟨a,xs,rfl,hq,r⟩:=r.list.sq;obtain⟨ls,rfl,hne,q⟩:=q;obtain⟨u,rfl,r1⟩:=rv.one
  cases r1;obtain⟨its,rvs,p,hz⟩:=I.list hq;refine call_function_tree F.kind_min F.plain_min F.entry_min (F.args_min1 _) ?_;show wpAny _ X.A.in1 (Builtin.Builtins.bindParams "min" ["key", "default"] 0 ⟨[],[]⟩ >>= _) _ _ s;refine wpAny_bind (wpAny_of_eq (show Builtin.Builtins.bindParams "min" ["key", "default"] 0 ⟨[],[]⟩=pure [none,none] from rfl) ?_);refine wpAny_bind (wpAny_pure ?_);refine wpAny_bind (wpAny_pyIter_list p.isList ?_);refine wpAny_bind (wpAny_newObj_type ?_);rw[nm];have hn1:H s.heap.objs.size=none:=I.hok.fresh (Nat.le_refl _);have e1:(s.heap.push { cls:=.type "list_iterator",data:=.fields #[.ref a,.int 0 0] }).objs.size=s.heap.objs.size+1:=Heap.size_push ..;have hn2:H (s.heap.push { cls:=.type "list_iterator",data:=.fields #[.ref a,.int 0 0] }).objs.size=none:=I.hok.fresh (by rw[e1];exact Nat.le_succ _);have f1:FpOk X pins H s.heap.objs.size:=I.fpOk (Nat.le_refl _) hn1;have f2:FpOk X pins H (s.heap.push { cls:=.type "list_iterator",data:=.fields #[.ref a,.int 0 0] }).objs.size:=I.fpOk (by rw[e1];exact Nat.le_succ _) hn2;have ne:s.heap.objs.size≠(s.heap.push { cls:=.type "list_iterator",data:=.fields #[.ref a,.int 0 0] }).objs.size:=by rw[e1];exact Nat.ne_of_lt (Nat.lt_succ_self _)
  generalize eS:(s.heap.push { cls:=.type "list_iterator",data:=.fields #[.ref a,.int 0 0] }).objs.size=S at hn2 f2 ne;have gS:((s.heap.push { cls:=.type "list_iterator",data:=.fields #[.ref a,.int 0 0] }).push { cls:=.type "list",data:=.seq #[] }).get? S=some (seqObj "list" #[] 0):=by rw[<-eS];exact Heap.get?_push_size _ rfl
  have st:((s.heap.push { cls:=.type "list_iterator",data:=.fields #[.ref a,.int 0 0] }).push { cls:=.type "list",data:=.seq #[] }).IsListIter s.heap.objs.size a 0:=⟨_,Heap.get?_push_of_some _ (Heap.get?_push_size _ rfl),rfl,rfl⟩
  have I0:Inv X pins σ H { s with heap:=(s.heap.push { cls:=.type "list_iterator",data:=.fields #[.ref a,.int 0 0] }).push { cls:=.type "list",data:=.seq #[] },toks:=s.toks }:=I.kept λb o e=>Heap.get?_push_of_some _ (Heap.get?_push_of_some _ e);have p0:=(I0.list hq)
  generalize (s.heap.push { cls:=.type "list_iterator",data:=.fields #[.ref a,.int 0 0] }).push { cls:=.type "list",data:=.seq #[] }=h0' at gS st I0 p0;generalize s.heap.objs.size=it at f1 ne st;obtain⟨its,rv,p,hz⟩:=p0;refine wpAny_pure ⟨plainId_quiet F.plain_min_loop _,?_⟩;refine codeAny_builtin F.entry_min_loop ?_;rw[Around.under_plainId F.plain_min_loop _];show wpAny _ X.A.in1 (seqItems? (.ref S) >>= _) _ _ _;refine wpAny_bind (wpAny_seqItems gS rfl ?_);show wpAny _ X.A.in1 (tryCatch (pyNext (.ref it)) _ >>= _) _ _ _;have hl:=rv.length
  cases xs with
  |nil=>
   have:=r.length;rw[List.length_map,List.length_nil]at this;exact absurd (List.eq_nil_of_length_eq_zero this) hne
  |cons x xs=>
   obtain⟨u,hu2,ru⟩:=rv.get (show(x::xs)[0]?=some x from rfl);refine wpAny_bind (wpAny_tryCatch (wpAny_pyNext_list_item st p.isList (x:=u) (by simpa using hu2) λh' st' sb=>?_));have I1:Inv X pins σ H { s with heap:=h',toks:=s.toks }:=f1.inv (s:={ s with heap:=h0',toks:=s.toks }) I0 λb o hb e=>(sb.2 b hb).trans e;have gS':=(sb.2 S ne.symm).trans gS;obtain⟨oi,gi,ci,di⟩:=id st';show wpAny _ X.A.in1 (updateSeq S (λ_=>#[u,u]) >>= _) _ _ _;refine wpAny_bind (wpAny_updateSeq gS' rfl ?_);rw[nm];refine wpAny_pure ⟨plainId_quiet F.plain_min_loop _,zra (ls:=ls) hc hu hq r (R:=λv s'=>DEnd X pins σ H Q v s') (λi x l vb s' J hx hl rx mn=>?_) _ 1 0 _ rfl (by simp) ⟨f2.inv (t':=s.toks) I1 λb o n e=>(Heap.get?_update_other _ _ (Ne.symm n)).trans e,⟨oi,(Heap.get?_update_other _ _ ne.symm).trans gi,ci,di⟩,f1,f2,ne,⟨u,_,x,Heap.get?_update_self _ gS' rfl,rfl,ru⟩,Nat.lt_succ_self _,λj' l l' hj h1 h2=>?_⟩⟩
   ·obtain⟨d,hd,rr⟩:=r.get' hx;rw[List.getElem?_map,hl]at hd
    cases hd;exact⟨x,H,kyD l,J,rx,Same.refl _,rr,q l (List.mem_of_getElem? hl) mn⟩
   ·cases (show j'=0 by omega);rw[h1]at h2
    cases h2;exact List.lt_irrefl _⟩
end
end L2
namespace My
open PySem L2 PyProof.Rows
def top(i:Nat):Stmt:=PySem.Challenge.pw_knockpurse_k53_roads_in_other_orders.main.body.getD i (.Pass ⟨0,0,0,0⟩)
abbrev wl:Stmt:=top 10
theorem zhh:yb ["thing"] ["thing"] (zc wl):=⟨rfl,rfl,rfl,by decide +kernel,rfl,by decide +kernel,by decide +kernel⟩
abbrev wm:Stmt:=top 13
theorem sc_times_of:yb ["road", "time", "times", "left", "need", "keep"] ["road", "time"] (zc wm):=⟨rfl,rfl,rfl,by decide +kernel,rfl,by decide +kernel,by decide +kernel⟩
abbrev x3:Stmt:=top 14
theorem sc_turned_at:yb ["road", "time", "number", "left"] ["road", "time"] (zc x3):=⟨rfl,rfl,rfl,by decide +kernel,rfl,by decide +kernel,by decide +kernel⟩
abbrev wn:Stmt:=top 15
theorem zhi:yb ["road"] ["road"] (zc wn):=⟨rfl,rfl,rfl,by decide +kernel,rfl,by decide +kernel,by decide +kernel⟩
abbrev xk:Stmt:=top 16
theorem zdr:yb ["road"] ["road"] (zc xk):=⟨rfl,rfl,rfl,by decide +kernel,rfl,by decide +kernel,by decide +kernel⟩
abbrev wy:Stmt:=top 17
theorem sc_vain_of:yb ["road", "time", "turned"] ["road", "time"] (zc wy):=⟨rfl,rfl,rfl,by decide +kernel,rfl,by decide +kernel,by decide +kernel⟩
abbrev xl:Stmt:=top 18
theorem zds:yb ["road", "thing"] ["road", "thing"] (zc xl):=⟨rfl,rfl,rfl,by decide +kernel,rfl,by decide +kernel,by decide +kernel⟩
abbrev wz:Stmt:=top 19
theorem zi9:yb ["road", "order"] ["road", "order"] (zc wz):=⟨rfl,rfl,rfl,by decide +kernel,rfl,by decide +kernel,by decide +kernel⟩
abbrev xm:Stmt:=top 20
theorem sc_best_order:yb ["road", "by_keep"] ["road"] (zc xm):=⟨rfl,rfl,rfl,by decide +kernel,rfl,by decide +kernel,by decide +kernel⟩
abbrev xn:Stmt:=top 21
theorem sc_all_orders:yb ["many", "orders", "place"] ["many"] (zc xn):=⟨rfl,rfl,rfl,by decide +kernel,rfl,by decide +kernel,by decide +kernel⟩
abbrev xp:Stmt:=top 22
theorem zdt:yb ["road", "time"] ["road", "time"] (zc xp):=⟨rfl,rfl,rfl,by decide +kernel,rfl,by decide +kernel,by decide +kernel⟩
abbrev yz:Stmt:=top 24
theorem zb4:yb ["_law_script", "_law_k"] ["_law_script", "_law_k"] (zc yz):=⟨rfl,rfl,rfl,by decide +kernel,rfl,by decide +kernel,by decide +kernel⟩
abbrev x4:Stmt:=top 25
theorem sc__law_next:yb ["_law_seed"] ["_law_seed"] (zc x4):=⟨rfl,rfl,rfl,by decide +kernel,rfl,by decide +kernel,by decide +kernel⟩
abbrev y4:Stmt:=top 26
theorem sc__law_pen_of:yb ["_law_cell", "_law_left"] ["_law_cell"] (zc y4):=⟨rfl,rfl,rfl,by decide +kernel,rfl,by decide +kernel,by decide +kernel⟩
abbrev x5:Stmt:=top 27
theorem sc__law_draw:yb ["_law_pen", "_law_many", "_law_found"] ["_law_pen", "_law_many"] (zc x5):=⟨rfl,rfl,rfl,by decide +kernel,rfl,by decide +kernel,by decide +kernel⟩
abbrev x6:Stmt:=top 28
theorem sc__law_road:yb ["_law_pen", "_law_many", "_law_wide"] ["_law_pen"] (zc x6):=⟨rfl,rfl,rfl,by decide +kernel,rfl,by decide +kernel,by decide +kernel⟩
abbrev wo:Stmt:=top 29
theorem sc__law_odd:yb ["_law_pen", "_law_some"] ["_law_pen"] (zc wo):=⟨rfl,rfl,rfl,by decide +kernel,rfl,by decide +kernel,by decide +kernel⟩
abbrev y1:Stmt:=top 30
theorem sc__law_refusal:yb ["_law_e", "_law_marks", "_law_word"] ["_law_e"] (zc y1):=⟨rfl,rfl,rfl,by decide +kernel,rfl,by decide +kernel,by decide +kernel⟩
abbrev xq:Stmt:=top 31
theorem zdu:yb ["_law_found"] ["_law_found"] (zc xq):=⟨rfl,rfl,rfl,by decide +kernel,rfl,by decide +kernel,by decide +kernel⟩
abbrev y6:Stmt:=top 32
theorem sc__law_orders:yb ["_law_many", "_law_found", "_law_turn", "_law_longer", "_law_ahead"] ["_law_many"] (zc y6):=⟨rfl,rfl,rfl,by decide +kernel,rfl,by decide +kernel,by decide +kernel⟩
abbrev x8:Stmt:=top 33
theorem sc__law_told:yb ["_law_way", "_law_road_here", "_law_thing", "_law_e"] ["_law_way", "_law_road_here", "_law_thing"] (zc x8):=⟨rfl,rfl,rfl,by decide +kernel,rfl,by decide +kernel,by decide +kernel⟩
abbrev xr:Stmt:=top 34
theorem sc__law_order:yb ["_law_pen", "_law_many", "_law_left", "_law_found"] ["_law_pen", "_law_many"] (zc xr):=⟨rfl,rfl,rfl,by decide +kernel,rfl,by decide +kernel,by decide +kernel⟩
abbrev x9:Stmt:=top 35
theorem sc__law_bent:yb ["_law_pen", "_law_order_here", "_law_way", "_law_at", "_law_odd_here", "_law_ahead", "_law_rest", "_law_some"] ["_law_pen", "_law_order_here"] (zc x9):=⟨rfl,rfl,rfl,by decide +kernel,rfl,by decide +kernel,by decide +kernel⟩
abbrev yq:Stmt:=top 36
theorem zbs:yb ["_law_many", "_law_thing"] ["_law_many", "_law_thing"] (zc yq):=⟨rfl,rfl,rfl,by decide +kernel,rfl,by decide +kernel,by decide +kernel⟩
abbrev xt:Stmt:=top 37
theorem zdv:yb ["_law_road_here"] ["_law_road_here"] (zc xt):=⟨rfl,rfl,rfl,by decide +kernel,rfl,by decide +kernel,by decide +kernel⟩
abbrev y8:Stmt:=top 38
theorem sc__law_worked:yb ["_law_road_here", "_law_time", "_law_worked_here", "_law_need", "_law_keep"] ["_law_road_here", "_law_time"] (zc y8):=⟨rfl,rfl,rfl,by decide +kernel,rfl,by decide +kernel,by decide +kernel⟩
abbrev yi:Stmt:=top 39
theorem sc__law_best_right:yb ["_law_pen", "_law_road_here", "_law_few", "_law_least_here", "_law_told_here", "_law_most", "_law_time", "_law_due"] ["_law_pen", "_law_road_here"] (zc yi):=⟨rfl,rfl,rfl,by decide +kernel,rfl,by decide +kernel,by decide +kernel⟩
abbrev ja:Stmt:=top 40
theorem sc_law:yb ["_law_script", "_law_cell", "_law_pen", "_law_road_here", "_law_order_here", "_law_thing", "_law_due"] ["_law_script"] (zc ja):=⟨rfl,rfl,rfl,by decide +kernel,rfl,by decide +kernel,by decide +kernel⟩
abbrev wj:Stmt:=top 8
theorem zfx:yb ["self", "many", "most"] ["self", "many", "most"] (zc (qo wj 0)):=⟨rfl,rfl,rfl,by decide +kernel,rfl,by decide +kernel,by decide +kernel⟩
structure Blt(mg:Str->Option Value):Prop where
 len:mg "len" = none
 range:mg "range" = none
 enumerate:mg "enumerate" = none
 sum:mg "sum" = none
 min:mg "min" = none
 max:mg "max" = none
 repr:mg "repr" = none
 isinstance:mg "isinstance" = none
 all:mg "all" = none
 sorted:mg "sorted" = none
 tupleT:mg "tuple" = none
 intT:mg "int" = none
 listT:mg "list" = none
 strT:mg "str" = none
 boolT:mg "bool" = none
 ValueError:mg "ValueError" = none
 LookupError:mg "LookupError" = none
 TypeError:mg "TypeError" = none
 ArithmeticError:mg "ArithmeticError" = none
 RuntimeError:mg "RuntimeError" = none
structure Xf(K:PySem.W.Frag)(mg:Str->Option Value):Prop where
 r_NoStep:∃C,mg "NoStep" = some (.ref C)/\PySem.W.nsIn K mainGlobals "NoStep" = some (some (.ref C))/\PySem.W.excIn K C [.type "ValueError",.type "Exception",.type "BaseException",.type "object"] "ValueError.__new__" = true
 kn:∃CK,mg "KnockError" = some (.ref CK)/\∀y∈(["NoStep", "TooGreat"]:List Str),∀D,PySem.W.nsIn K mainGlobals y=some (some (.ref D))->zqq K CK D
 f_many:zox K "many" ["TooGreat"]
 f_most:zox K "most" ["TooGreat"]
 i_NoBeat:∃D,mg "NoBeat" = some (.ref D)/\∀nm b,qi (["NoStep", "TooGreat"]:List Str) "NoBeat" nm=some b->∀C,PySem.W.nsIn K mainGlobals nm=some (some (.ref C))->XIs K C/\PySem.W.kitOne K (.ref C) (.ref D)=some b
 i_NoStep:∃D,mg "NoStep" = some (.ref D)/\∀nm b,qi (["NoStep", "TooGreat"]:List Str) "NoStep" nm=some b->∀C,PySem.W.nsIn K mainGlobals nm=some (some (.ref C))->XIs K C/\PySem.W.kitOne K (.ref C) (.ref D)=some b
 i_NoNumber:∃D,mg "NoNumber" = some (.ref D)/\∀nm b,qi (["NoStep", "TooGreat"]:List Str) "NoNumber" nm=some b->∀C,PySem.W.nsIn K mainGlobals nm=some (some (.ref C))->XIs K C/\PySem.W.kitOne K (.ref C) (.ref D)=some b
 i_NoLine:∃D,mg "NoLine" = some (.ref D)/\∀nm b,qi (["NoStep", "TooGreat"]:List Str) "NoLine" nm=some b->∀C,PySem.W.nsIn K mainGlobals nm=some (some (.ref C))->XIs K C/\PySem.W.kitOne K (.ref C) (.ref D)=some b
 i_NoStory:∃D,mg "NoStory" = some (.ref D)/\∀nm b,qi (["NoStep", "TooGreat"]:List Str) "NoStory" nm=some b->∀C,PySem.W.nsIn K mainGlobals nm=some (some (.ref C))->XIs K C/\PySem.W.kitOne K (.ref C) (.ref D)=some b
 i_NoText:∃D,mg "NoText" = some (.ref D)/\∀nm b,qi (["NoStep", "TooGreat"]:List Str) "NoText" nm=some b->∀C,PySem.W.nsIn K mainGlobals nm=some (some (.ref C))->XIs K C/\PySem.W.kitOne K (.ref C) (.ref D)=some b
 i_TooGreat:∃D,mg "TooGreat" = some (.ref D)/\∀nm b,qi (["NoStep", "TooGreat"]:List Str) "TooGreat" nm=some b->∀C,PySem.W.nsIn K mainGlobals nm=some (some (.ref C))->XIs K C/\PySem.W.kitOne K (.ref C) (.ref D)=some b
 b_ValueError:∀nm b,zhb (["NoStep", "TooGreat"]:List Str) true nm=some b->∀C,PySem.W.nsIn K mainGlobals nm=some (some (.ref C))->XIs K C/\PySem.W.kitOne K (.ref C) (.type "ValueError")=some b
 t_0:∀nm b,zhb (["NoStep", "TooGreat"]:List Str) false nm=some b->∀C,PySem.W.nsIn K mainGlobals nm=some (some (.ref C))->XIs K C/\PySem.W.kitAny K (.ref C) [.type "LookupError",.type "TypeError",.type "ArithmeticError",.type "RuntimeError"]=some b
abbrev Cal(P:Program)(w:World)(K:PySem.W.Frag)(mg:Str->Option Value)(base:Heap):=ym P w K mg base
local macro_rules|`(tactic| walk_at "dr")=>`(tactic| dsimp only[↓zkm,↓zc3,↓O.bare,↓O.with,↓zix,↓zlt,↓zfs,↓zom,↓zon,↓zns,↓zjy,↓znv,↓znw,↓znx,↓ztp,↓ztr,↓znz,↓zko,↓zfw,↓zcb,↓zo5,↓zkj,↓zfu,↓dIf,↓zts,↓zto,↓znu,↓zjz,↓zqb,↓zp6,↓zig,↓zm6,↓zm7,↓zj0,↓ztu,↓dC,↓zgl,↓zm8,↓zgm,↓zm9,↓zla,↓zs2,↓zpz,↓dFz,↓dTB,↓onB,↓dOr,↓zs3,↓zs4,↓zna,↓znb,↓zs5,↓zs6,↓dOp,↓dUn,↓zs7,↓zs8,↓gII,↓zgo,↓zs9,↓zta,↓ztb,↓ztc,↓gEq,↓gNe,↓ztd,↓zcm,↓gIn,↓dCB,↓dCF,↓zte,↓ztf,↓ztg,↓zth,↓znh,↓zic,↓gIx,↓znl,↓zfe,↓dSl,↓zff,↓zb7,↓zfg,↓zjx,↓zfh,↓zil,↓zao,↓znq,↓zie,↓znr,↓zn3,↓dLC,↓zq4,↓qk,↓zua,↓lcF,↓zei,↓zej,↓zif,↓Ret.d,↓jg,↓wc,↓zgq,↓clr,↓zs0,↓dIs,↓isD,↓ziq,↓zti,↓ztj,↓zn6,↓zn7,↓ziw,↓zob,↓dLR,↓zka,↓zql,List.map_cons,List.map_nil,List.length_cons,List.length_nil,List.replicate_succ,List.replicate_zero,List.cons_append,List.nil_append,List.append_nil,List.set_cons_zero,List.set_cons_succ,List.getElem?_cons_zero,List.getElem?_cons_succ,Option.join_some,Nat.reduceAdd,Nat.reduceSub,Nat.zero_add,Bool.not_true,Bool.not_false])
local macro_rules|`(tactic| walk_at "ds")=>`(tactic| first|simp only[↓zkm,↓zc3,↓O.bare,↓O.with,↓zix,↓zlt,↓zfs,↓zom,↓zon,↓zns,↓zjy,↓znv,↓znw,↓znx,↓ztp,↓ztr,↓znz,↓zko,↓zfw,↓zcb,↓zo5,↓zkj,↓zfu,↓dIf,↓zts,↓zto,↓znu,↓zjz,↓zqb,↓zp6,↓zig,↓zm6,↓zm7,↓zj0,↓ztu,↓dC,↓zgl,↓zm8,↓zgm,↓zm9,↓zla,↓zs2,↓zpz,↓dFz,↓dTB,↓onB,↓dOr,↓zs3,↓zs4,↓zna,↓znb,↓zs5,↓zs6,↓dOp,↓dUn,↓zs7,↓zs8,↓gII,↓zgo,↓zs9,↓zta,↓ztb,↓ztc,↓gEq,↓gNe,↓ztd,↓zcm,↓gIn,↓dCB,↓dCF,↓zte,↓ztf,↓ztg,↓zth,↓znh,↓zic,↓gIx,↓znl,↓zfe,↓dSl,↓zff,↓zb7,↓zfg,↓zjx,↓zfh,↓zil,↓zao,↓znq,↓zie,↓znr,↓zn3,↓dLC,↓zq4,↓qk,↓zua,↓lcF,↓zei,↓zej,↓zif,↓Ret.d,↓jg,↓wc,↓zgq,↓clr,↓zs0,↓dIs,↓isD,↓ziq,↓zti,↓ztj,↓zn6,↓zn7,↓ziw,↓zob,↓dLR,↓zka,↓zql,List.map_cons,List.map_nil,List.length_cons,List.length_nil,List.replicate_succ,List.replicate_zero,List.cons_append,List.nil_append,List.append_nil,List.set_cons_zero,List.set_cons_succ,List.getElem?_cons_zero,List.getElem?_cons_succ,Option.join_some,Nat.reduceAdd,Nat.reduceSub,Nat.zero_add,Bool.not_true,Bool.not_false,if_true,if_false,reduceIte,decide_eq_true_eq,Bool.not_eq_true',decide_eq_false_iff_not,true_and,and_true,Bool.false_eq_true,Bool.not_eq_eq_eq_not,eq_self,and_self,List.isEmpty_nil,List.isEmpty_cons,reduceCtorEq,sizeLine_eq,Nat.reduceLeDiff,Nat.zero_le]|skip)
section
variable {P:Program}{w:World}{K:PySem.W.Frag}{mg:Str->Option Value}{base:Heap}{f:Addr}{fd:FuncData}
def jb:DSp:=λws Q=>∃(ns:List Int) (k:Int),ws = [.scr ns,.val (.int k)]/\0<=k/\∀v:Int,Q (.val (.int v))
theorem zb5(B:Blt mg)(F:Fun K "_law_cell_at" "_law_cell_at" yz f fd):FnOk P w K mg base CX0 1 f fd ["_law_script", "_law_k"] (yf K jb):=by
 refine F.dok zb4 (λws Q h=>?_) (λcdv A outer s H ws Q E hr h=>?_)
 ·obtain⟨ns,k,rfl,_⟩:=h;rfl
 obtain⟨ns,k,rfl,h0,q⟩:=h;refine⟨_,(zg (ww (y3 zlb (zf 1) (DE.dv (zlc 0 rfl B.len)) (yn _)) (zq (yc (znm 0 (ya 1) (λ_ _=>rfl)))) yu) (zq (yc zr))),?_⟩;walk_at "ds"
 split
 ·next c=>
  obtain⟨v,e,_⟩:=zh7 (xs:=ns) h0 c;exact⟨v,e,q v⟩
 ·exact q 0
def ko:DSp:=λws Q=>∃k:Int,ws = [.val (.int k)]/\∀v:Int,Q (.val (.int v))
theorem zfy(B:Blt mg)(F:Fun K "_law_next" "_law_next" x4 f fd):FnOk P w K mg base CX0 1 f fd ["_law_seed"] (yf K ko):=by
 refine F.dok sc__law_next (λws Q h=>?_) (λcdv A outer s H ws Q E hr h=>?_)
 ·obtain⟨k,rfl,_⟩:=h;rfl
 obtain⟨k,rfl,q⟩:=h;refine⟨_,(zg (y2 (i:=0) sc__law_next.nd rfl (Or.inl rfl) (yt zjr (DE.dv (yt wf (zf 0) (DE.dv zr))) (DE.dv zr))) (zq (yc (yt zjr (DE.dv (yt wf (DE.dv (yt wf (DE.dv (yt zne (zf 0) (zf 0))) (DE.dv (yt zne (DE.dv zr) (zf 0))))) (DE.dv zr))) (DE.dv zr))))),?_⟩;walk_at "ds";have h1:0<=(k+7919) % 2147483647:=Int.emod_nonneg _ (by decide);have h2:(k+7919) % 2147483647<2147483647:=Int.emod_lt_of_pos _ (by decide);exact⟨by decide,.inl ⟨by omega,by omega⟩,.inl ⟨by omega,by omega⟩,by decide,q _⟩
def jn:DSp:=λws Q=>∃k:Int,ws = [.val (.int k)]/\∀a b c:Int,Q (.new [.int a,.int b,.int c])
theorem zc8(B:Blt mg)(F:Fun K "_law_pen_of" "_law_pen_of" y4 f fd):FnOk P w K mg base CX0 1 f fd ["_law_cell"] (yf K jn):=by
 refine F.dok sc__law_pen_of (λws Q h=>?_) (λcdv A outer s H ws Q E hr h=>?_)
 ·obtain⟨k,rfl,_⟩:=h;rfl
 obtain⟨k,rfl,q⟩:=h;refine⟨_,(zg (y2 (i:=1) sc__law_pen_of.nd rfl (Or.inl rfl) (z5 (zng rfl) rfl B.max boot_max (zp (zf 0) (zp (DE.dv (yt zee (DE.dv zr) (zf 0))) zw)))) (zq (zp7 (xv (ze (ya 1) (ze (wx zve rfl B.intT boot_int (zp (DE.dv (zcl zwh (zf 1) (DE.dv (yt zro (DE.dv zr) (DE.dv zr))) (yn _))) zw)) (ze (yt zjr (zf 1) (DE.dv zr)) zv))))))),?_⟩;walk_at "ds";exact⟨⟨by decide,by decide,by decide⟩,by decide,q _ _ _⟩
def zo6:Sp:=λvs H Q _=>∃k:Int,vs = [.int k]/\∀(v:Int) H',Same H H'->Q (.int v) H'
theorem zud{k:Nat}{x:Str}{ps:List Str}(C:Cal P w K mg base k x ps (yf K ko)):Cal P w K mg base k x ps zo6:=by
 obtain⟨f,fd,F,r⟩:=C;refine⟨f,fd,F.imp λvs H Q E h=>?_,r⟩;obtain⟨k,rfl,q⟩:=h;exact⟨[.val (.int k)],λr=>∃i:Int,r=.val (.int i),.cons (show Rep K H (.int k) _ from .int) .nil,⟨k,rfl,λv=>⟨v,rfl⟩⟩,λv H' r sm rp ⟨i,e⟩=>by subst e;cases (show Rep K H' (.int i) v from rp);exact q i H' sm⟩
theorem zfz(B:Blt mg)(F:Fun K "_law_draw" "_law_draw" x5 f fd)(Cd:Cal P w K mg base 1 "_law_next" ["_law_seed"] (yf K ko)):FnOk P w K mg base CX0 2 f fd ["_law_pen", "_law_many"] (yf K xj):=by
 have C__law_next:=zud Cd;refine ztt (F.ok sc__law_draw (λvs H Q E h=>?_) (λcdv A outer s H vs Q E hr h=>?_))
 ·obtain⟨p,m,rfl,_⟩:=h;rfl
 obtain⟨p,m,rfl,hm,hM,⟨a,b,c,hp⟩,q⟩:=h;refine⟨_,(zau (zun (zu9 (zse (zjj zmr (zaw ix_list (pv 0) w4 (λ_ _=>rfl)) w4 (yn _)) (zpi (zjj zrk (zaw ix_list (pv 0) w4 (λ_ _=>rfl)) w4 (yn _))))) (zau (ze4 (i:=2) sc__law_draw.nd rfl (Or.inl rfl) (zga zhv (zaw ix_list (pv 0) w4 (λ_ _=>rfl)) (pv 1))) (zau (zhs (zga zgh (zaw ix_list (pv 0) w4 (λ_ _=>rfl)) (pv 1)) (zmk (pv 0) w4 zgd)) (ze2 (zbe (pv 2))))) zpj) (zau (zhs (zck C__law_next hr rfl (yo (zga zmo (zck C__law_next hr rfl (yo (zaw ix_list (pv 0) w4 (λ_ _=>rfl)) wb)) w4) wb)) (zmk (pv 0) w4 zgd)) (ze2 (zbe (zga zhv (zga zgh (zaw ix_list (pv 0) w4 (λ_ _=>rfl)) w4) (pv 1)))))),?_⟩;have hS:SqL K H p [.int a,.int b,.int c]:=SqL.of hp;refine⟨_,rfl,p,_,_,_,rfl,rfl,hS,rfl,rfl,_,rfl,?_⟩;refine zu2 (λc1=>?_) (λc1=>?_)
 ·refine⟨_,rfl,p,_,_,_,rfl,rfl,hS,rfl,_,_,rfl,rfl,_,rfl,?_⟩;refine zu2 (λc2=>?_) (λc2=>?_)
  ·refine⟨_,rfl,p,_,_,_,rfl,rfl,hS,rfl,_,rfl,_,_,rfl,rfl,hm,?_⟩;refine⟨_,rfl,p,_,_,_,rfl,rfl,hS,rfl,_,rfl,_,_,rfl,rfl,⟨hm,hM⟩,?_⟩;refine⟨_,rfl,p,_,_,_,rfl,rfl,hp,rfl,?_⟩;exact⟨_,rfl,q _ _ (Int.emod_nonneg _ (by omega)) (Int.emod_lt_of_pos _ hm) ⟨a / m,b,c,zj⟩ But.write⟩
  ·refine⟨_,rfl,p,_,_,_,rfl,rfl,hS,rfl,_,rfl,λv1 H1 s1=>⟨_,_,rfl,rfl,_,rfl,λv2 H2 s2=>⟨_,rfl,p,_,_,_,rfl,rfl,s2 _ _ (s1 _ _ hp),rfl,?_⟩⟩⟩;refine⟨_,rfl,p,_,_,_,rfl,rfl,SqL.of zj,rfl,_,_,rfl,rfl,⟨by decide,by decide⟩,_,rfl,_,_,rfl,rfl,hm,?_⟩;exact q _ _ (Int.emod_nonneg _ (by omega)) (Int.emod_lt_of_pos _ hm) ⟨a,b,v2,zj⟩ ((But.of_same (s1.trans s2)).trans But.write)
 ·refine zwe ?_;refine⟨_,rfl,p,_,_,_,rfl,rfl,hS,rfl,_,rfl,λv1 H1 s1=>⟨_,_,rfl,rfl,_,rfl,λv2 H2 s2=>⟨_,rfl,p,_,_,_,rfl,rfl,s2 _ _ (s1 _ _ hp),rfl,?_⟩⟩⟩;refine⟨_,rfl,p,_,_,_,rfl,rfl,SqL.of zj,rfl,_,_,rfl,rfl,⟨by decide,by decide⟩,_,rfl,_,_,rfl,rfl,hm,?_⟩;exact q _ _ (Int.emod_nonneg _ (by omega)) (Int.emod_lt_of_pos _ hm) ⟨a,b,v2,zj⟩ ((But.of_same (s1.trans s2)).trans But.write)
def zc9:DSp:=λws Q=>∃ns:List Int,ws = [.scr ns]/\ns.length<=63/\Q (.val (.bool true))
theorem sliceD_take0(xs:List D){n:Int}(h:0<=n):y9 xs none (some n)=xs.take n.toNat:=by
 have:=jh xs n.toNat;rw[Int.toNat_of_nonneg h]at this;exact this
def pD(r:Int×Int):D:=.tuple [.int r.1,.int r.2]
def qu:DSp:=λws Q=>∃d:D,ws = [.val d]/\Q (.val (.bool (match d with|.int _=>true|_=>false)))
theorem zdw(B:Blt mg)(F:Fun K "_law_whole" "_law_whole" xq f fd):FnOk P w K mg base CX0 1 f fd ["_law_found"] (yf K qu):=by
 refine F.dok zdu (λws Q h=>?_) (λcdv A outer s H ws Q E hr h=>?_)
 ·obtain⟨d,rfl,_⟩:=h;rfl
 obtain⟨d,rfl,q⟩:=h;refine⟨_,(zq (yc (znc (zbi (n := "int") zrr rfl B.isinstance boot_isinstance (zf 0) rfl B.intT boot_int) (zia (znd (zbi (n := "bool") znk rfl B.isinstance boot_isinstance (zf 0) rfl B.boolT boot_bool)))))),?_⟩;walk_at "ds"
 cases d <;> exact q
theorem zrb{r:Int×Int}(h1 : -1000000000<=r.1)(h2:r.1<=1000000000)(h3 : -1000000000<=r.2)(h4:r.2<=1000000000):Sh (pD r) 89 1 :=
 Sh.tup (n:=41) (k:=0) (m:=2) (jz (Sh.intB (by omega) (by omega)) (jz (Sh.intB (by omega) (by omega)) zoa)) (Nat.le_refl 2)
def whB:D->Bool
 |.int _=>true
 |_=>false
def inB(lo hi:Int):D->Bool
 |.int i=>decide (lo<=i/\i<=hi)
 |_=>false
def jo:DSp:=λws Q=>∃d:D,ws = [.val d]/\Q (.val (.bool (whB d)))
theorem zhj(B:Blt mg)(F:Fun K "is_whole" "is_whole" wl f fd):FnOk P w K mg base CX0 1 f fd ["thing"] (yf K jo):=by
 refine F.dok zhh (λws Q h=>?_) (λcdv A outer s H ws Q E hr h=>?_)
 ·obtain⟨d,rfl,_⟩:=h;rfl
 obtain⟨d,rfl,q⟩:=h;refine⟨_,(zq (yc (znc (zbi (n := "int") zrr rfl B.isinstance boot_isinstance (zf 0) rfl B.intT boot_int) (zia (znd (zbi (n := "bool") znk rfl B.isinstance boot_isinstance (zf 0) rfl B.boolT boot_bool)))))),?_⟩;walk_at "ds"
 cases d <;> exact q
end
section
variable {P:Program}{w:World}{K:PySem.W.Frag}{mg:Str->Option Value}{base:Heap}{f:Addr}{fd:FuncData}
def jp:List (Int×Int)->Int->List Int
 |[],_=>[]
 |r::rs,t=>t::(if t<r.1 then [] else jp rs (max (t-r.1-r.2) 0))
def zbz:DSp:=λws Q=>∃(rs:List (Int×Int)) (t:Int),ws = [.val (.tuple (rs.map pD)),.val (.int t)]/\rs.length<=100/\Q (.new ((jp rs t).map PyData.int))
theorem zhk(B:Blt mg)(F:Fun K "times_of" "times_of" wm f fd):FnOk P w K mg base CX0 1 f fd ["road", "time"] (yf K zbz):=by
 refine F.dok sc_times_of (λws Q h=>?_) (λcdv A outer s H ws Q E hr h=>?_)
 ·obtain⟨rs,t,rfl,_⟩:=h;rfl
 obtain⟨rs,t,rfl,hl,q⟩:=h;refine⟨_,(zg (zb8 (i:=2) sc_times_of.nd rfl (Or.inl rfl) (xv zv)) (zg (y2 (i:=3) sc_times_of.nd rfl (Or.inl rfl) (ya 1)) (zg (jf PassesOwn.never rfl (zco (ya 0)) (qg (n:=2) rfl (yk (z0 (i:=4) sc_times_of.nd rfl (Or.inl rfl)) (yk (z0 (i:=5) sc_times_of.nd rfl (Or.inl rfl)) vp))) (zg (zle 2 (ya 3)) (zg (ww (y3 zlb (zf 3) (zf 4) (yn _)) (zq znt) yu) (zq (y2 (i:=3) sc_times_of.nd rfl (Or.inl rfl) (z5 (zng rfl) rfl B.max boot_max (zp (DE.dv (yt zee (DE.dv (yt zee (zf 3) (zf 4))) (zf 5))) (zp (DE.dv zr) zw xc)))))))) (zq (zp8 2))))),?_⟩;walk_at "ds";refine v4 (λds σ=>∃(rs':List (Int×Int)) (acc:List D) (left:Int) (u v:Option W),ds=rs'.map pD/\σ = [some (.val (.tuple (rs.map pD))),some (.val (.int t)),some (.own (.lst acc)),some (.val (.int left)),u,v]/\acc.length+rs'.length<=100/\Q (.new (acc++(jp rs' left).map PyData.int))) ?_ ?_ ⟨rs,[],t,none,none,rfl,rfl,by simpa using hl,q⟩
 ·rintro d ds σ N ⟨rs',acc,left,u,v,e,rfl,hl,q⟩ k
  cases rs' with
  |nil=>cases e
  |cons r rs'=>
   cases e;simp only[pD];walk_at "ds";refine⟨(by omega),?_⟩
   split
   ·next c=>simpa[jp,c]using q
   ·next c=>exact k _ ⟨rs',_,_,_,_,rfl,rfl,by simp at hl ⊢;omega,by simpa[jp,c]using q⟩
 ·rintro σ ⟨rs',acc,left,u,v,e,rfl,hl,q⟩
  cases rs' with
  |nil=>walk_at "ds";simpa[jp]using q
  |cons r rs'=>cases e
def qt:List (Int×Int)->Int->Option Nat
 |[],_=>none
 |r::rs,t=>if t<r.1 then some 0 else (qt rs (max (t-r.1-r.2) 0)).map (·+1)
def oD(k:Nat):Option Nat->D
 |none=>.none
 |some j=>.int ((k+j:Nat):Int)
theorem zrc(k:Nat)(o:Option Nat):oD k (o.map (·+1))=oD (k+1) o:=by
 cases o with
 |none=>rfl
 |some j=>simp only[oD,Option.map_some];rw[show k+(j+1)=k+1+j by omega]
theorem zrd{α β:Type}(f:α->β)(pre:List α)(r:α)(post:List α):atI ((pre++r::post).map f) (pre.length:Int)=some (f r):=qm (by simp)
def za6:DSp:=λws Q=>∃(rs:List (Int×Int)) (t:Int),ws = [.val (.tuple (rs.map pD)),.val (.int t)]/\rs.length<=100/\Q (.val (oD 0 (qt rs t)))
theorem zf0(B:Blt mg)(F:Fun K "turned_at" "turned_at" x3 f fd)(C_times_of:Cal P w K mg base 1 "times_of" ["road", "time"] (yf K zbz)):FnOk P w K mg base CX0 2 f fd ["road", "time"] (yf K za6):=by
 refine F.dok sc_turned_at (λws Q h=>?_) (λcdv A outer s H ws Q E hr h=>?_)
 ·obtain⟨rs,t,rfl,_⟩:=h;rfl
 obtain⟨rs,t,rfl,hl,q⟩:=h;refine⟨_,(zg (jf PassesOwn.never rfl (zgu rfl B.enumerate (ze (yd C_times_of hr rfl (yj 0 (yj 1 ye))) zv)) (qg (n:=2) rfl (yk (z0 (i:=2) sc_turned_at.nd rfl (Or.inl rfl)) (yk (z0 (i:=3) sc_turned_at.nd rfl (Or.inl rfl)) vp))) (zq (ww (y3 zlb (zf 3) (DE.dv (wg (DE.dv (wg (zf 0) (ya 2) (λ_ _=>rfl))) zr (λ_ _=>rfl))) (yn _)) (zq (yc (ya 2))) yu))) (zq (yc zfd))),?_⟩;walk_at "ds";refine⟨rs,t,rfl,hl,?_⟩;walk_at "ds";refine v4 (λds σ=>∃(pre rs':List (Int×Int)) (left:Int) (u v:Option W),rs=pre++rs'/\ds=qf pre.length ((jp rs' left).map PyData.int)/\σ = [some (.val (.tuple (rs.map pD))),some (.val (.int t)),u,v]/\Q (.val (oD pre.length (qt rs' left)))) ?_ ?_ ⟨[],rs,t,none,none,rfl,rfl,rfl,q⟩
 ·rintro d ds σ N ⟨pre,rs',left,u,v,rfl,e,rfl,q⟩ k
  cases rs' with
  |nil=>cases e
  |cons r rs'=>
   simp only[jp,List.map_cons,qf]at e
   cases e;walk_at "ds";refine⟨_,zrd pD pre r rs',?_⟩;simp only[pD];walk_at "ds";refine⟨_,zcq _ _,?_⟩;walk_at "ds"
   split
   ·next c=>simpa[qt,c,oD]using q
   ·next c=>
    refine k _ ⟨pre ++ [r],rs',max (left-r.1-r.2) 0,_,_,by simp,by simp[c],rfl,?_⟩;rw[List.length_append,List.length_singleton,<-zrc];simpa[qt,c]using q
 ·rintro σ ⟨pre,rs',left,u,v,rfl,e,rfl,q⟩
  cases rs' with
  |nil=>walk_at "ds";simpa[qt,oD]using q
  |cons r rs'=>cases e
def ka(rs:List (Int×Int)):Int:=(rs.map λr=>r.1).sum
theorem jq{f:D->(Option D->Prop)->Prop}(F:Int×Int->Int){rs:List (Int×Int)}{Q:List D->Prop}(h:∀r∈rs,∀k:Option D->Prop,k (some (.int (F r)))->f (pD r) k)(q:Q ((rs.map F).map PyData.int)):lcD f (rs.map pD) Q :=
 wd pD (λr=>.int (F r)) h (by rw[List.map_map]at q;exact q)
def jr:DSp:=λws Q=>∃(rs:List (Int×Int)),ws = [.val (.tuple (rs.map pD))]/\rs.length<=100/\Q (.val (.int (ka rs)))
theorem zhl(B:Blt mg)(F:Fun K "needs_of" "needs_of" wn f fd):FnOk P w K mg base CX0 1 f fd ["road"] (yf K jr):=by
 refine F.dok zhi (λws Q h=>?_) (λcdv A outer s H ws Q E hr h=>?_)
 ·obtain⟨rs,rfl,_⟩:=h;rfl
 obtain⟨rs,rfl,hl,q⟩:=h;refine⟨_,(zq (yc (z5 (zju rfl) rfl B.sum boot_sum (zp (DE.dv (DF.de (vg rfl (N':=["need", "keep"]) (capt:=[]) (k:=2) (js:=[]) ⟨rfl,by decide,rfl,by decide,.nil,rfl,.nil,rfl,by decide⟩ (xz (zf 0)) (λ_ _ _ _=>(qg (n:=2) rfl (yk (z0 (i:=0) (show List.Nodup (["need", "keep"]:List Str) by decide +kernel) rfl (Or.inl rfl) (Or.inr rfl)) (yk (z0 (i:=1) (show List.Nodup (["need", "keep"]:List Str) by decide +kernel) rfl (Or.inl rfl) (Or.inr rfl)) vp)))) (λ_ _ _ _=>xg) (λ_ _ _ _=>(ya 0))))) zw)))),?_⟩;walk_at "ds";refine⟨by rw[List.length_map];omega,jq (λr=>r.1) (λr hr k hk=>?_) ⟨_,vr _,q⟩⟩;simp only[pD];walk_at "ds";exact hk
def za7(rs:List (Int×Int)):Int:=(rs.map λr=>r.2).sum
def ku(rs:List (Int×Int)):Int:=ka rs+za7 rs.dropLast
theorem sliceD_dropLast(xs:List D):y9 xs none (some (-1))=xs.dropLast:=by
 unfold y9;rw[HT.sIx_none];have:HT.sIx xs.length xs.length (some (-1))=xs.length-1:=by
  unfold HT.sIx;simp
  try omega
 rw[this];simp[List.dropLast_eq_take]
def zac:DSp:=λws Q=>∃(rs:List (Int×Int)),ws = [.val (.tuple (rs.map pD))]/\rs.length<=100/\Q (.val (.int (ku rs)))
theorem zdx(B:Blt mg)(F:Fun K "least_time" "least_time" xk f fd)(C_needs_of:Cal P w K mg base 1 "needs_of" ["road"] (yf K jr)):FnOk P w K mg base CX0 2 f fd ["road"] (yf K zac):=by
 refine F.dok zdr (λws Q h=>?_) (λcdv A outer s H ws Q E hr h=>?_)
 ·obtain⟨rs,rfl,_⟩:=h;rfl
 obtain⟨rs,rfl,hl,q⟩:=h;refine⟨_,(zq (yc (yt wf (DE.dv (yd C_needs_of hr rfl (yj 0 ye))) (DE.dv (z5 (zju rfl) rfl B.sum boot_sum (zp (DE.dv (DF.de (vg rfl (N':=["need", "keep"]) (capt:=[]) (k:=2) (js:=[]) ⟨rfl,by decide,rfl,by decide,.nil,rfl,.nil,rfl,by decide⟩ (xz (DE.dv (va (zf 0) vy (vc (v6 zr))))) (λ_ _ _ _=>(qg (n:=2) rfl (yk (z0 (i:=0) (show List.Nodup (["need", "keep"]:List Str) by decide +kernel) rfl (Or.inl rfl) (Or.inr rfl)) (yk (z0 (i:=1) (show List.Nodup (["need", "keep"]:List Str) by decide +kernel) rfl (Or.inl rfl) (Or.inr rfl)) vp)))) (λ_ _ _ _=>xg) (λ_ _ _ _=>(ya 1))))) zw)))))),?_⟩;walk_at "ds";refine⟨rs,rfl,hl,?_⟩;walk_at "ds";rw[sliceD_dropLast,<-List.map_dropLast];refine⟨by simp;omega,jq (λr=>r.2) (λr hr k hk=>?_) ⟨_,vr _,q⟩⟩;simp only[pD];walk_at "ds";exact hk
def we(rs:List (Int×Int))(t w:Int):Int:=match qt rs t with
 |none=>0
 |some k=>w+ka (rs.take k)
def zda:DSp:=λws Q=>∃(rs:List (Int×Int)) (t:Int),ws = [.val (.tuple (rs.map pD)),.val (.int t)]/\rs.length<=100/\Q (.val (.int (we rs t 0)))
theorem zja(B:Blt mg)(F:Fun K "vain_of" "vain_of" wy f fd)(C_turned_at:Cal P w K mg base 2 "turned_at" ["road", "time"] (yf K za6))(C_needs_of:Cal P w K mg base 1 "needs_of" ["road"] (yf K jr)):FnOk P w K mg base CX0 3 f fd ["road", "time"] (yf K zda):=by
 refine F.dok sc_vain_of (λws Q h=>?_) (λcdv A outer s H ws Q E hr h=>?_)
 ·obtain⟨rs,t,rfl,_⟩:=h;rfl
 obtain⟨rs,t,rfl,hl,q⟩:=h;refine⟨_,(zg (y2 (i:=2) sc_vain_of.nd rfl (Or.inl rfl) (yd C_turned_at hr rfl (yj 0 (yj 1 ye)))) (zg (ww (y3 zvd (zf 2) (DE.dv zfd) (yn _)) (zq (yc zr)) yu) (zq (yc (yd C_needs_of hr rfl (xi (va (zf 0) vy (vc (ya 2))) ye)))))),?_⟩;walk_at "ds";refine⟨rs,t,rfl,hl,?_⟩;walk_at "ds"
 cases e:qt rs t with
 |none=>
  simp only[we,e]at q;simp only[oD];walk_at "ds";exact q
 |some k=>
  simp only[we,e,Int.zero_add]at q;simp only[oD,Nat.zero_add];walk_at "ds";rw[jh,<-List.map_take];exact⟨rs.take k,rfl,by rw[List.length_take];omega,q⟩
structure OkR(rs:List (Int×Int)):Prop where
 all:∀r∈rs,1<=r.1/\r.1<=1000/\0<=r.2/\r.2<=1000
 lo:1<=rs.length
 hi:rs.length<=8
def za8:DSp:=λws Q=>ws = [.pen]/\∀rs,OkR rs->Q (.val (.tuple (rs.map pD)))
theorem zf1(B:Blt mg)(F:Fun K "_law_road" "_law_road" x6 f fd)(C__law_draw:Cal P w K mg base 2 "_law_draw" ["_law_pen", "_law_many"] (yf K xj)):FnOk P w K mg base CX0 3 f fd ["_law_pen"] (yf K za8):=by
 refine F.dok sc__law_road (λws Q h=>?_) (λcdv A outer s H ws Q E hr h=>?_)
 ·obtain⟨rfl,_⟩:=h;rfl
 obtain⟨rfl,q⟩:=h;refine⟨_,(zg (ztq (yw (ze (yt wf (DE.dv zr) (DE.dv (yd C__law_draw hr rfl (yj 0 (xi zr ye xc))))) (ze (wg (DE.dv (DF.de (xv (ze zr (ze zr (ze zr zv xc) xc) xc)))) (yd C__law_draw hr rfl (yj 0 (xi zr ye xc))) (λ_ _=>rfl)) zv))) (qg (n:=2) rfl (yk (z0 (i:=1) sc__law_road.nd rfl (Or.inl rfl)) (yk (z0 (i:=2) sc__law_road.nd rfl (Or.inr rfl)) vp)))) (zq (yc (wx ki rfl B.tupleT boot_tuple (zp (DE.dv (DF.de (vg rfl (N':=["_law_house", "_law_pen", "_law_wide"]) (capt:=["_law_pen", "_law_wide"]) (k:=1) (js:=[0,2]) ⟨rfl,by decide,rfl,by decide,(.cons rfl (.cons rfl .nil)),rfl,(.cons rfl (Or.inl rfl) rfl (Or.inl rfl) (.cons rfl (Or.inl rfl) rfl (Or.inl rfl) .nil)),rfl,by decide⟩ (DI.w (vt rfl B.range (ze (ya 1) zv))) (λ_ _ _ _=>(z0 (i:=0) (show List.Nodup (["_law_house", "_law_pen", "_law_wide"]:List Str) by decide +kernel) rfl (Or.inl rfl) (Or.inr rfl))) (λ_ _ _ _=>xg) (λ_ _ _ _=>(yw (ze (yt wf (DE.dv zr) (DE.dv (yd C__law_draw hr rfl (yj 1 (yj 2 ye))))) (ze (yd C__law_draw hr rfl (yj 1 (xi (yt wf (zf 2) (DE.dv zr)) ye))) zv))))))) zw))))),?_⟩;walk_at "ds";refine j9 (by decide) (by decide) λv h1 h2=>?_;walk_at "ds";refine(j9 (by decide) (by decide) λw h3 h4=>?_);walk_at "ds";refine zvh (ns:=[4,30,1000]) (lo:=4) (hi:=1000) h3 (by simpa using h4) (by decide) λn h5 h6=>?_;walk_at "ds";refine⟨⟨by omega,by omega⟩,by simp[xb];omega,?_⟩;refine zcp (λy=>∃r:Int×Int,y=pD r/\1<=r.1/\r.1<=1000/\0<=r.2/\r.2<=1000) (λd k hk=>?_) λys hy hp=>?_
 ·walk_at "ds";refine j9 (by omega) (by omega) λa h7 h8=>?_;walk_at "ds";refine j9 (by omega) (by omega) λb h9 h10=>?_;walk_at "ds";exact hk _ ⟨(1+a,b),rfl,by simp only[];omega⟩
 ·obtain⟨rs,rfl,h⟩:=zfl hp;walk_at "ds";rw[List.length_map]at hy;exact q rs ⟨h,by omega,by omega⟩
theorem zo7(n:Int)(ns:List Int):inD (.int n) (ns.map PyData.int)=decide (n∈ns):=by
 unfold inD;rw[List.any_map,Bool.eq_iff_iff,List.any_eq_true,decide_eq_true_eq];constructor
 ·rintro ⟨x,hx,e⟩;simp only[Function.comp,zj2,decide_eq_true_eq]at e;rw[<-e];exact hx
 ·intro h;exact⟨n,h,by simp only[Function.comp,zj2,decide_eq_true_eq]⟩
theorem zkr{α:Type}{g:DTG}{tt:DTT}{ti2:DTF}{is2:List Nat}{g2:DTG}{tt2:DTT}{te:DTE}{σ0:DSt}(enc:α->D)(F:α->List D)(n B:Nat):
  ∀(as:List α) (acc:List D) (Q:List D->Prop),(∀a∈as,(F a).length<=n) ->
  (∀a∈as,∀(acc:List D) (R:List D->Prop),acc.length+n<=B->R (acc++F a)->g (enc a) σ0 λσ1=>tt σ1 λb=>if b=true then ti2 σ1 λes=>zi4 (lcF g2 tt2 te (qk is2 0 σ1)) es acc R else R acc) ->
  acc.length+as.length * n<=B->Q (acc++as.flatMap F)->zhg g tt ti2 is2 g2 tt2 te σ0 (as.map enc) acc Q
 |[],acc,Q,_,_,_,q=>by
  rw[List.flatMap_nil,List.append_nil]at q;exact q
 |a::as,acc,Q,hF,h,hl,q=>by
  rw[List.length_cons,Nat.add_mul]at hl;rw[List.map_cons,zhg];refine h a List.mem_cons_self acc _ (by omega) (zkr enc F n B as _ Q (λx hx=>hF x (List.mem_cons_of_mem _ hx)) (λx hx=>h x (List.mem_cons_of_mem _ hx)) ?_ ?_)
  ·have:=hF a List.mem_cons_self;rw[List.length_append];omega
  ·rw[List.append_assoc];exact q
theorem zhm{α β:Type}{F:α->List β}{n:Nat}:∀{as:List α},(∀a∈as,(F a).length<=n)->(as.flatMap F).length<=as.length * n
 |[],_=>Nat.zero_le _
 |a::as,h=>by
  have h1:=h a List.mem_cons_self;have h2:=zhm λb hb=>h b (List.mem_cons_of_mem _ hb);rw[List.flatMap_cons,List.length_append,List.length_cons,Nat.add_mul];omega
end
section
variable {P:Program}{w:World}{K:PySem.W.Frag}{mg:Str->Option Value}{base:Heap}{f:Addr}{fd:FuncData}
def nI(n:Nat):D:=.int (n:Int)
def otD(o:List Nat):D:=.tuple (o.map nI)
def pick(rs:List (Int×Int))(o:List Nat):List (Int×Int):=o.map λi=>rs.getD i (0,0)
theorem zdb(rs:List (Int×Int)):pick rs (List.range rs.length)=rs:=by
 unfold pick;refine List.ext_getElem (by simp) λi h1 h2=>?_;simp[List.getD_eq_getElem?_getD,h2]
theorem j4{α β:Type}{f:α->β}:∀{l:List α}{l':List β},l'.Perm (l.map f)->∃o:List α,o.Perm l/\l'=o.map f
 |[],l',h=>⟨[],.refl _,h.eq_nil⟩
 |a::l,l',h=>by
  have hm:f a∈l':=h.mem_iff.mpr List.mem_cons_self;obtain⟨s,t,rfl⟩:=List.append_of_mem hm;have h2:(s++t).Perm (l.map f):=(List.perm_middle.symm.trans h).cons_inv;obtain⟨o,p,e⟩:=j4 h2;obtain⟨o1,o2,rfl,rfl,rfl⟩:=List.map_eq_append_iff.mp e.symm;exact⟨o1++a::o2,List.perm_middle.trans (p.cons a),by simp⟩
theorem pick_perm{rs:List (Int×Int)}{o:List Nat}(h:o.Perm (List.range rs.length)):(pick rs o).Perm rs:=by
 have:=h.map λi=>rs.getD i (0,0)
 rwa [show(List.range rs.length).map (λi=>rs.getD i (0,0))=rs from zdb rs]at this
theorem ze0{rs rs':List (Int×Int)}(h:rs'.Perm rs):∃o:List Nat,o.Perm (List.range rs.length)/\rs'=pick rs o:=by
 rw[<-zdb rs]at h;exact j4 h
def jd(n:Nat):List Int:=(List.range n).map λi:Nat=>(i:Int)
theorem zo8(n:Nat):(jd n).Pairwise (· <= ·):=by
 unfold jd;rw[List.pairwise_map];exact List.pairwise_lt_range.imp λh=>by omega
theorem zmc{n:Nat}{o:List Nat}(h:o.Perm (List.range n)):ji (o.map λi:Nat=>(i:Int))=jd n:=(qh (h.map _).symm (zo8 n)).symm
def xu(n:Nat):Nat->List (List Nat)
 |0=>[[]]
 |k+1=>(xu n k).flatMap λo=>((List.range n).filter λi=>decide (i∉o)).map λi=>o ++ [i]
theorem ords_mem{n:Nat}:∀{k:Nat}{o:List Nat},o∈xu n k↔o.Nodup/\o.length=k/\∀i∈o,i<n
 |0,o=>by
  constructor
  ·intro h;rw[List.mem_singleton.mp h];exact⟨List.nodup_nil,rfl,λi hi=>nomatch hi⟩
  ·rintro ⟨_,h,_⟩;rw[List.length_eq_zero_iff.mp h];exact List.mem_cons_self
 |k+1,o=>by
  rw[xu,List.mem_flatMap];constructor
  ·rintro ⟨p,hp,h⟩;obtain⟨i,hi,rfl⟩:=List.mem_map.mp h;obtain⟨hi1,hi2⟩:=List.mem_filter.mp hi;have hi2:=of_decide_eq_true hi2;obtain⟨h1,h2,h3⟩:=ords_mem.mp hp;refine⟨?_,by simp[h2],λj hj=>?_⟩
   ·rw[List.nodup_append];refine⟨h1,List.nodup_cons.mpr ⟨λz=>(nomatch z),List.nodup_nil⟩,λx hx y hy z=>?_⟩;rw[List.mem_singleton.mp hy]at z;exact hi2 (z ▸ hx)
   ·rcases List.mem_append.mp hj with hj|hj
    ·exact h3 j hj
    ·rw[List.mem_singleton.mp hj];exact List.mem_range.mp hi1
  ·rintro ⟨h1,h2,h3⟩;rcases List.eq_nil_or_concat o with rfl |⟨p,i,e⟩
   ·cases h2
   ·rw[List.concat_eq_append]at e;subst e;rw[List.nodup_append]at h1;refine⟨p,ords_mem.mpr ⟨h1.1,by simpa using h2,λj hj=>h3 j (List.mem_append_left _ hj)⟩,List.mem_map.mpr ⟨i,List.mem_filter.mpr ⟨List.mem_range.mpr (h3 i (by simp)),decide_eq_true λhm=>h1.2.2 i hm i List.mem_cons_self rfl⟩,rfl⟩⟩
theorem zjb{n:Nat}{o:List Nat}(h1:o.Nodup)(h2:o.length=n)(h3:∀i∈o,i<n):o.Perm (List.range n):=by
 have:∀{l m:List Nat},l.Nodup->(∀i∈l,i∈m)->m.length=l.length->l.Perm m:=λ{l}=>by
  induction l with
  |nil=>intro m _ _ h;rw[List.length_eq_zero_iff.mp h]
  |cons a l ih=>
   intro m nd hm hl;obtain⟨n1,n2⟩:=List.nodup_cons.mp nd;have ha:=hm a List.mem_cons_self;have hl2:=List.length_erase_of_mem ha;rw[List.length_cons]at hl;have:=ih (m:=m.erase a) n2 (λi hi=>(List.mem_erase_of_ne (λ(z:i=a)=>n1 (z ▸ hi))).mpr (hm i (List.mem_cons_of_mem _ hi))) (by omega);exact(this.cons a).trans (List.perm_cons_erase ha).symm
 exact this h1 (λi hi=>List.mem_range.mpr (h3 i hi)) (by rw[List.length_range,h2])
theorem ords_perm{n:Nat}{o:List Nat}:o∈xu n n↔o.Perm (List.range n):=by
 rw[ords_mem];constructor
 ·rintro ⟨h1,h2,h3⟩;exact zjb h1 h2 h3
 ·intro h;exact⟨h.nodup_iff.mpr List.nodup_range,by rw[h.length_eq,List.length_range],λi hi=>List.mem_range.mp (h.mem_iff.mp hi)⟩
theorem jt{n:Nat}:∀k:Nat,(xu n k).length<=n ^ k
 |0=>Nat.le_refl _
 |k+1=>by
  have h:=jt (n:=n) k;have h2:=zhm (F:=λo:List Nat=>((List.range n).filter λi=>decide (i∉o)).map λi=>o ++ [i]) (n:=n) (as:=xu n k) λo _=>by
   rw[List.length_map];have:=List.length_filter_le (λi=>decide (i∉o)) (List.range n)
   rwa [List.length_range]at this
  rw[xu,Nat.pow_succ];exact Nat.le_trans h2 (Nat.mul_le_mul_right _ h)
theorem zmd{rs:List (Int×Int)}(h:rs ≠ []):ku rs=ka rs+za7 rs-(rs.getLast h).2:=by
 have e:=List.dropLast_concat_getLast h;have k:za7 rs=za7 rs.dropLast+(rs.getLast h).2:=by
  conv=>lhs;rw[<-e]
  simp[za7]
 unfold ku;omega
theorem zhn{l l':List Int}(h:l'.Perm l):l'.sum=l.sum:=by
 induction h with
 |nil=>rfl
 |cons a _ ih=>rw[List.sum_cons,List.sum_cons,ih]
 |swap a b l=>simp only[List.sum_cons];omega
 |trans _ _ h1 h2=>rw[h1,h2]
theorem zme{rs rs':List (Int×Int)}(h:rs'.Perm rs):ka rs'=ka rs:=zhn (h.map _)
theorem zmf{rs rs':List (Int×Int)}(h:rs'.Perm rs):za7 rs'=za7 rs:=zhn (h.map _)
end
section
variable {P:Program}{w:World}{K:PySem.W.Frag}{mg:Str->Option Value}{base:Heap}{f:Addr}{fd:FuncData}
def za9(n:Nat):D->Bool
 |.tuple xs=>xs.all whB && decide (ji (xs.map deI)=jd n)
 |_=>false
theorem zcc:∀{xs:List D},xs.all whB=true->xs=(xs.map deI).map PyData.int
 |[],_=>rfl
 |x::xs,h=>by
  rw[List.all_cons,Bool.and_eq_true]at h;rw[List.map_cons,List.map_cons,<-zcc h.2]
  cases x with
  |int i=>rfl
  |_=>exact absurd h.1 (λz=>(by cases z))
theorem zar(n:Nat):xb 0 n=(List.range n).map nI:=by
 unfold xb nI;exact List.map_congr_left λi _=>by rw[Int.zero_add]
theorem zr5(n:Nat):xb 0 n=(jd n).map PyData.int:=by
 rw[zar];unfold jd;rw[List.map_map];rfl
theorem zue(as bs:List Int):PyData.eqv (.list (as.map PyData.int)) (.list (bs.map PyData.int))=decide (as=bs):=by
 have h:=zj3 (.list (as.map PyData.int)) (.list (bs.map PyData.int)) (zgv as) (zgv bs)
 by_cases c:as=bs
 ·rw[decide_eq_true c];exact h.mpr (by rw[c])
 ·rw[decide_eq_false c];refine Bool.eq_false_iff.mpr λz=>c ?_;have:=h.mp z;injection this with this
  have e:∀l:List Int,(l.map PyData.int).map deI=l:=λl=>by rw[List.map_map];exact(List.map_congr_left λa _=>rfl).trans (List.map_id _)
  rw[<-e as,this,e]
def zad:DSp:=λws Q=>∃(rs:List (Int×Int)) (d:D),ws = [.val (.tuple (rs.map pD)),.val d]/\rs.length<=8/\(∀xs,d=.tuple xs->xs.length<64)/\Q (.val (.bool (za9 rs.length d)))
theorem zdy(B:Blt mg)(F:Fun K "order_good" "order_good" xl f fd)(C_is_whole:Cal P w K mg base 1 "is_whole" ["thing"] (yf K jo)):FnOk P w K mg base CX0 2 f fd ["road", "thing"] (yf K zad):=by
 refine F.dok zds (λws Q h=>?_) (λcdv A outer s H ws Q E hr h=>?_)
 ·obtain⟨rs,d,rfl,_⟩:=h;rfl
 obtain⟨rs,d,rfl,hl,hx,q⟩:=h;refine⟨_,(zg (ww (DWt.dt (zbv (kh (v5 (DE.dv (zbi (n := "tuple") zjv rfl B.isinstance boot_isinstance (zf 1) rfl B.tupleT boot_tuple)))) (zam (kh (v5 (DE.dv (z5 (znj rfl) rfl B.all boot_all (zp (DE.dv (DF.de (vg rfl (N':=["number"]) (capt:=[]) (k:=1) (js:=[]) ⟨rfl,by decide,rfl,by decide,.nil,rfl,.nil,rfl,by decide⟩ (xz (zf 1)) (λ_ _ _ _=>(z0 (i:=0) (show List.Nodup (["number"]:List Str) by decide +kernel) rfl (Or.inl rfl) (Or.inr rfl))) (λ_ _ _ _=>xg) (λ_ _ _ _=>(yd C_is_whole hr rfl (yj 0 ye)))))) zw)))))))) (zq (yc qb)) yu) (zq (yc (zcl (znf hr) (DE.dv (DF.de (zcn zfq rfl B.sorted boot_sorted (zp (zf 1) zw)))) (DE.dv (DF.de (zg0 rfl B.listT rfl B.range rfl (ze (z5 vf rfl B.len PySem.boot_len (zp (zf 0) zw)) zv)))) (yn _))))),?_⟩
 cases d with
 |tuple xs=>
  have hx:=hx xs rfl;walk_at "ds";simp only[za9]at q;have:=wd (f:=lcF (zao 0) zei (zej jo (zla 0 zgm)) [none]) (id:D->D) (λx=>.bool (whB x)) (as:=xs) (Q:=λxs_1=>∃ns,ve xs_1=some ns/\if ns.all id=false then Q (Ret.val (PyData.bool false)) else xs.length<64/\zfp xs λxs=>0<=((List.map pD rs).length:Int)/\((List.map pD rs).length:Int)<=1000000/\Lay (PyData.list xs)/\Lay (PyData.list (xb 0 ((List.map pD rs).length:Int).toNat))/\Q (Ret.val (PyData.bool ((PyData.list xs).eqv (PyData.list (xb 0 ((List.map pD rs).length:Int).toNat)))))) (λx hx k hk=>?_) ⟨xs.map whB,?_,?_⟩
  ·rw[List.map_id]at this;exact⟨by omega,this⟩
  ·simp only[id];walk_at "ds";exact⟨x,rfl,hk⟩
  ·have:=zan (xs.map whB);rw[List.map_map]at this;exact this
  ·rw[List.all_map]
   cases e:xs.all whB with
   |false=>
    rw[e]at q;rw[if_pos (by exact e)];exact q
   |true=>
    rw[e,Bool.true_and]at q;rw[if_neg (by rw[show xs.all (id ∘ whB)=true from e];decide)];refine⟨hx,.inl ⟨xs.map deI,zcc e,Int.natCast_nonneg _,by rw[List.length_map];omega,qx _,?_⟩⟩;rw[List.length_map,Int.toNat_natCast,zr5,zue];exact⟨qx _,q⟩
 |_=>walk_at "ds";exact q
theorem zjc{n:Nat}{o:List Nat}(h:o.Perm (List.range n)):za9 n (otD o)=true:=by
 show((o.map nI).all whB && decide (ji ((o.map nI).map deI)=jd n))=true;rw[List.map_map,show(o.map (deI ∘ nI))=o.map λi:Nat=>(i:Int) from rfl,zmc h,decide_eq_true rfl,Bool.and_true,List.all_map];exact List.all_eq_true.mpr λi _=>rfl
theorem j5{rs:List (Int×Int)}{i:Nat}(h:i<rs.length):atI (rs.map pD) (i:Int)=some (pD (rs.getD i (0,0))):=by
 refine qm ?_;rw[List.getElem?_map,List.getD_eq_getElem?_getD,List.getElem?_eq_getElem h];rfl
theorem zks{a b:List Nat}(h:otD a=otD b):a=b:=by
 have h2:a.map nI=b.map nI:=by injection h
 have e:∀l:List Nat,(l.map nI).map (λd=>(deI d).toNat)=l:=λl=>by
  rw[List.map_map];exact(List.map_congr_left λi _=>by simp[nI,deI]).trans (List.map_id _)
 rw[<-e a,h2,e]
theorem zf2{n:Nat}{d:D}(h:za9 n d=true):∃o:List Nat,d=otD o/\o.Perm (List.range n):=by
 unfold za9 at h
 split at h
 ·next xs=>
  rw[Bool.and_eq_true]at h;have e:=zcc h.1;have s:=of_decide_eq_true h.2;have p:(xs.map deI).Perm (jd n):=by rw[<-s];exact(zap _).symm
  obtain⟨o,po,eo⟩:=j4 p;refine⟨o,?_,po⟩;rw[e,eo];unfold otD;rw[List.map_map];rfl
 ·cases h
def zas:zg5:=λws Q ex=>∃(rs:List (Int×Int)) (d:D),ws = [.val (.tuple (rs.map pD)),.val d]/\rs.length<=8/\(∀xs,d=.tuple xs->xs.length<64)/\(za9 rs.length d=false->ex ("NoStep",[]))/\∀o:List Nat,d=otD o->o.Perm (List.range rs.length)->Q (.val (.tuple ((pick rs o).map pD)))
theorem zjd(B:Blt mg)(F:Fun K "ordered" "ordered" wz f fd)(XF:Xf K mg)(C_order_good:Cal P w K mg base 2 "order_good" ["road", "thing"] (yf K zad)):FnOk P w K mg base (CXk P w) 3 f fd ["road", "order"] (kz K zas):=by
 refine F.dokX zi9 (λws Q ex h=>?_) (λcdv A outer s H ws Q ex E hr h hE=>?_)
 ·obtain⟨rs,d,rfl,_⟩:=h;rfl
 obtain⟨rs,d,rfl,hl,hx,q1,q2⟩:=h;obtain⟨cx_NoStep,mx_NoStep,nx_NoStep,qx_NoStep⟩:=XF.r_NoStep;refine⟨_,(zev (zol (kh (v5 (DE.dv (yd C_order_good hr rfl (yj 0 (yj 1 ye)))))) (za4 (zlq hE hr.hd rfl mx_NoStep nx_NoStep qx_NoStep)) zg7) (za4 (zok (yc (wx ki rfl B.tupleT boot_tuple (zp (DE.dv (DF.de (vg rfl (N':=["number", "road"]) (capt:=["road"]) (k:=1) (js:=[0]) ⟨rfl,by decide,rfl,by decide,(.cons rfl .nil),rfl,(.cons rfl (Or.inl rfl) rfl (Or.inl rfl) .nil),rfl,by decide⟩ (xz (zf 1)) (λ_ _ _ _=>(z0 (i:=0) (show List.Nodup (["number", "road"]:List Str) by decide +kernel) rfl (Or.inl rfl) (Or.inr rfl))) (λ_ _ _ _=>xg) (λ_ _ _ _=>(wg (zf 1) (ya 0) (λ_ _=>rfl)))))) zw)))))),?_⟩;walk_at "ds";refine⟨rs,d,rfl,hl,hx,?_⟩
 cases e:za9 rs.length d with
 |false=>
  walk_at "ds";exact q1 e
 |true=>
  obtain⟨o,rfl,hp⟩:=zf2 e;have ho:o.length=rs.length:=by rw[hp.length_eq,List.length_range]
  have q:=q2 o rfl hp;unfold otD;walk_at "ds";refine⟨by rw[List.length_map];omega,wd nI (λi=>pD (rs.getD i (0,0))) (λi hi k hk=>?_) ?_⟩
  ·simp only[nI];walk_at "ds";exact⟨_,j5 (List.mem_range.mp (hp.mem_iff.mp hi)),hk⟩
  ·unfold pick at q;rw[List.map_map]at q;exact q
def zae:DSp:=λws Q=>∃n:Nat,ws = [.val (.int n)]/\n<=6/\Q (.val (.list ((xu n n).map otD)))
theorem zo9(i:Nat)(o:List Nat):inD (nI i) (o.map nI)=decide (i∈o):=by
 have:=zo7 (i:Int) (o.map λi:Nat=>(i:Int));rw[List.map_map]at this;have e:((i:Int)∈o.map λi:Nat=>(i:Int))↔i∈o:=by
  constructor
  ·intro h;obtain⟨j,hj,e⟩:=List.mem_map.mp h;have:j=i:=by omega
   exact this ▸ hj
  ·exact λh=>List.mem_map.mpr ⟨i,h,rfl⟩
 exact this.trans (decide_eq_decide.mpr e)
theorem zdc(o:List Nat):Lay (otD o):=by
 have:=zli (o.map λi:Nat=>(i:Int));rw[List.map_map]at this;exact this
theorem zdd{α:Type}{f:D->(Option D->Prop)->Prop}(enc F:α->D)(p:α->Bool):∀{as:List α}{acc:List D}{Q:List D->Prop},(∀a∈as,∀k:Option D->Prop,k (if p a=true then some (F a) else none)->f (enc a) k)->acc.length+as.length<=sizeLine->Q (acc++(as.filter p).map F)->zi4 f (as.map enc) acc Q
 |[],acc,Q,_,_,q=>by
  rw[List.filter_nil,List.map_nil,List.append_nil]at q;exact q
 |a::as,acc,Q,h,hl,q=>by
  rw[List.map_cons,zi4];refine h a List.mem_cons_self _ ?_;rw[List.length_cons]at hl;rw[List.filter_cons]at q
  cases e:p a with
  |true=>
   rw[e,if_pos rfl]at q;rw[if_pos rfl];exact⟨by omega,zdd enc F p (λb hb=>h b (List.mem_cons_of_mem _ hb)) (by rw[List.length_append,List.length_singleton];omega) (by rw[List.append_assoc];exact q)⟩
  |false=>
   rw[e,if_neg (by decide)]at q;rw[if_neg (by decide)];exact zdd enc F p (λb hb=>h b (List.mem_cons_of_mem _ hb)) (by omega) q
theorem zdz(B:Blt mg)(F:Fun K "all_orders" "all_orders" xn f fd):FnOk P w K mg base CX0 1 f fd ["many"] (yf K zae):=by
 refine F.dok sc_all_orders (λws Q h=>?_) (λcdv A outer s H ws Q E hr h=>?_)
 ·obtain⟨n,rfl,_⟩:=h;rfl
 obtain⟨n,rfl,hl,q⟩:=h;refine⟨_,(zg (y2 (i:=1) sc_all_orders.nd rfl (Or.inl rfl) (DF.de (xv (ze (yw zv) zv zh8)))) (zg (jf PassesOwn.never rfl (vt rfl B.range (ze (ya 0) zv)) (z0 (i:=2) sc_all_orders.nd rfl (Or.inl rfl)) (zq (zl6 (i:=1) sc_all_orders.nd rfl (Or.inl rfl) rfl (N':=["order", "number", "many"]) (capt:=["many"]) (k:=2) (js:=[0]) ⟨rfl,by decide,rfl,by decide,(.cons rfl .nil),rfl,(.cons rfl (Or.inl rfl) rfl (Or.inl rfl) .nil),rfl,by decide⟩ (xz (zf 1)) (λ_ _ _ _=>(z0 (i:=0) (show List.Nodup (["order", "number", "many"]:List Str) by decide +kernel) rfl (Or.inl rfl) (Or.inr rfl))) (λ_ _ _ _=>xg) (λ_ _ _ _=>(vt rfl B.range (ze (ya 2) zv))) (λ_ _ _ _=>(z0 (i:=1) (show List.Nodup (["order", "number", "many"]:List Str) by decide +kernel) rfl (Or.inl rfl) (Or.inr rfl))) (λ_ _ _ _=>(zfj (y3 (zjt hr) (zf 1) (zf 0) rfl))) (λ_ _ _ _=>(yt wf (zf 0) (DE.dv (yw (ze (ya 1) zv)))))))) (zq (yc (ya 1))))),?_⟩;walk_at "ds";refine⟨by omega,?_⟩;rw[Int.toNat_natCast,zar];refine v4 (λds σ=>∃(k j:Nat) (u:Option W),k+j=n/\ds.length=j/\σ = [some (.val (.int n)),some (.val (.list ((xu n k).map otD))),u]) ?_ ?_ ⟨0,n,none,by omega,by simp,rfl⟩
 ·rintro d ds σ N ⟨k,j,u,e1,e2,rfl⟩ kk;rw[List.length_cons]at e2;walk_at "ds"
  have len:(xu n k).length<=46656:=by
   have h1:=jt (n:=n) k;have h2:n ^ k<=6 ^ k:=Nat.pow_le_pow_left hl k;have h3:6 ^ k<=6 ^ 6:=Nat.pow_le_pow_right (by decide) (by omega);have h4:(6:Nat) ^ 6=46656:=by decide
   omega
  refine zkr otD (λo=>(((List.range n).filter λi=>decide (i∉o)).map λi=>o ++ [i]).map otD) 6 16777216 (xu n k) [] _ (λo ho=>?_) (λo ho acc R hl2 hR=>?_) (by rw[List.length_nil];omega) ?_
  ·rw[List.length_map,List.length_map];have:=List.length_filter_le (λi=>decide (i∉o)) (List.range n);rw[List.length_range]at this;omega
  ·walk_at "ds";refine⟨by omega,?_⟩;rw[Int.toNat_natCast,zar];rw[List.map_map]at hR;refine zdd nI (λi=>otD (o ++ [i])) (λi=>decide (i∉o)) (λi hi K hK=>?_) (by rw[List.length_range,sizeLine_eq];omega) hR;unfold otD;walk_at "ds";refine⟨Lay.int _,zdc o,?_⟩;rw[zo9];have ol:=(ords_mem.mp ho).2.1
   by_cases c:i∈o
   ·rw[decide_eq_true c,if_neg (by decide)];rw[decide_eq_false (by simpa using c),if_neg (by decide)]at hK;exact hK
   ·rw[decide_eq_false c,if_pos rfl];rw[decide_eq_true c,if_pos rfl]at hK;walk_at "ds";refine⟨?_,?_⟩
    ·rw[List.length_map,List.length_singleton];omega
    ·unfold otD at hK;rw[List.map_append]at hK;exact hK
  ·rw[List.nil_append,<-List.map_flatMap];exact kk _ ⟨k+1,j-1,_,by omega,by omega,rfl⟩
 ·rintro σ ⟨k,j,u,e1,e2,rfl⟩;rw[List.length_nil]at e2;have:k=n:=by omega
  subst this;walk_at "ds";exact q
def zaf:zg5:=λws Q ex=>∃(rs:List (Int×Int)) (t:Int),ws = [.val (.tuple (rs.map pD)),.val (.int t)]/\rs.length<=8/\(6<rs.length->ex ("TooGreat",[("many",(rs.length:Int)),("most",6)]))/\(rs.length<=6->∀v,(∀rs',rs'.Perm rs->v<=we rs' t 0)->(∃rs',rs'.Perm rs/\v=we rs' t 0)->Q (.val (.int v)))
theorem zd0(B:Blt mg)(F:Fun K "least_vain" "least_vain" xp f fd){t_MOST_ORDERED:Tok}(G_MOST_ORDERED:mg "MOST_ORDERED" = some (.int 6 t_MOST_ORDERED))(XF:Xf K mg)(R_TooGreat:zoy P w K mg base "TooGreat" ["many", "most"])(C_vain_of:Cal P w K mg base 3 "vain_of" ["road", "time"] (yf K zda))(C_ordered:CalleeX P w K mg base 3 "ordered" ["road", "order"] (kz K zas))(C_all_orders:Cal P w K mg base 1 "all_orders" ["many"] (yf K zae)):FnOk P w K mg base (CXk P w) 6 f fd ["road", "time"] (kz K zaf):=by
 refine F.dokX zdt (λws Q ex h=>?_) (λcdv A outer s H ws Q ex E hr h hE=>?_)
 ·obtain⟨rs,t,rfl,_⟩:=h;rfl
 obtain⟨rs,t,rfl,h8,q1,q2⟩:=h;obtain⟨cx_TooGreat,fx_TooGreat,ox_TooGreat,sx_TooGreat,tx_TooGreat,mx_TooGreat,nx_TooGreat,xc_TooGreat,io_TooGreat,gi_TooGreat⟩:=R_TooGreat;refine⟨_,(zev (zol (y3 zwg (DE.dv (z5 vf rfl B.len PySem.boot_len (zp (zf 0) zw))) (DE.dv (zjq (d:=.int 6) (v:=.int 6) rfl G_MOST_ORDERED ⟨_,rfl⟩ (λ_=>.int))) (yn _)) (za4 (zi2 (k:=1) hE hr.hd (hr.mono (by decide)) rfl mx_TooGreat nx_TooGreat xc_TooGreat io_TooGreat gi_TooGreat rfl (by decide) (ze (z5 vf rfl B.len PySem.boot_len (zp (zf 0) zw)) (ze (zjq (d:=.int 6) (v:=.int 6) rfl G_MOST_ORDERED ⟨_,rfl⟩ (λ_=>.int)) zv)))) zg7) (za4 (zok (yc (z5 (zn8 rfl) rfl B.min boot_min (zp (DE.dv (DF.de (vg rfl (N':=["order", "time", "road"]) (capt:=["time", "road"]) (k:=1) (js:=[1,0]) ⟨rfl,by decide,rfl,by decide,(.cons rfl (.cons rfl .nil)),rfl,(.cons rfl (Or.inl rfl) rfl (Or.inl rfl) (.cons rfl (Or.inl rfl) rfl (Or.inl rfl) .nil)),rfl,by decide⟩ (xz (DE.dv (yd C_all_orders hr rfl (xi (z5 vf rfl B.len PySem.boot_len (zp (zf 0) zw)) ye)))) (λ_ _ _ _=>(z0 (i:=0) (show List.Nodup (["order", "time", "road"]:List Str) by decide +kernel) rfl (Or.inl rfl) (Or.inr rfl))) (λ_ _ _ _=>xg) (λ_ _ _ _=>(yd C_vain_of hr rfl (xi (yd C_ordered.calm hr rfl (yj 2 (yj 0 ye))) (yj 1 ye))))))) zw)))))),?_⟩;walk_at "ds";rw[List.length_map]
 by_cases c6:6<rs.length
 ·rw[if_pos (by omega)];exact⟨[(rs.length:Int),6],rfl,rfl,q1 c6⟩
 rw[if_neg (by omega)];have hl:rs.length<=6:=by omega
 have q:=q2 hl;refine⟨rs.length,rfl,hl,?_⟩;walk_at "ds";have len:(xu rs.length rs.length).length<=46656:=by
  have h1:=jt (n:=rs.length) rs.length;have h2:rs.length ^ rs.length<=6 ^ rs.length:=Nat.pow_le_pow_left hl _;have h3:6 ^ rs.length<=6 ^ 6:=Nat.pow_le_pow_right (by decide) hl;have h4:(6:Nat) ^ 6=46656:=by decide
  omega
 refine⟨by rw[List.length_map];omega,wd otD (λo=>.int (we (pick rs o) t 0)) (λo ho k hk=>?_) ⟨(xu rs.length rs.length).map λo=>we (pick rs o) t 0,?_,?_,λm hm hle=>?_⟩⟩
 ·have hp:=ords_perm.mp ho;walk_at "ds";have olen:o.length=rs.length:=by rw[hp.length_eq,List.length_range]
  refine⟨rs,otD o,rfl,by omega,λxs e=>(by cases e;rw[List.length_map];omega),λe=>absurd (zjc hp) (by rw[e];decide),λo' eo hp'=>?_⟩;have eo2:o'=o:=zks eo.symm;subst eo2;walk_at "ds";exact⟨pick rs o',t,rfl,by rw[(pick_perm hp).length_eq];omega,hk⟩
 ·have:=vr ((xu rs.length rs.length).map λo=>we (pick rs o) t 0);rw[List.map_map]at this;exact this
 ·rw[List.length_map];exact List.length_pos_of_mem (ords_perm.mpr (List.Perm.refl _))
 ·obtain⟨o,ho,rfl⟩:=List.mem_map.mp hm;refine q _ (λrs' h=>?_) ⟨pick rs o,pick_perm (ords_perm.mp ho),rfl⟩;obtain⟨o',h1,rfl⟩:=ze0 h;exact hle _ (List.mem_map.mpr ⟨o',ords_perm.mpr h1,rfl⟩)
theorem zho(xs:List D)(h:xs ≠ []):y9 xs (some (-1)) none = [xs.getLast h]:=by
 unfold y9;rw[HT.sIx_none];have hp:=List.length_pos_iff.mpr h;have:HT.sIx xs.length 0 (some (-1))=xs.length-1:=by
  unfold HT.sIx;simp
  try omega
 rw[this];have e:=List.dropLast_concat_getLast h
 conv=>lhs;rw[<-e]
 rw[List.length_append,List.length_singleton,List.drop_append_of_le_length (by simp),List.length_dropLast];rw[List.drop_of_length_le (by simp),show xs.length-1+1-(xs.length-1+1-1)=1 by omega];rfl
theorem zuf{a b c d:Int}:([a,b] < [c,d])↔(a<c\/(a=c/\b<d)):=by
 rw[List.cons_lt_cons_iff,List.cons_lt_cons_iff];simp
def kp(rs:List (Int×Int))(i:Nat):Int:=(rs.getD i (0,0)).2
theorem zmg{n m:Nat}{p:List Nat}(h:(p ++ [m]).Perm (List.range n)):ji (p.map λi:Nat=>(i:Int))=((List.range n).filter (λi=>decide (i≠m))).map λi:Nat=>(i:Int):=by
 refine(qh (List.Perm.map _ ?_) ?_).symm
 ·have h2:=h.filter λi=>decide (i≠m);have nd:=h.nodup_iff.mpr List.nodup_range;rw[List.nodup_append]at nd;rw[List.filter_append]at h2;have e1:p.filter (λi=>decide (i≠m))=p:=List.filter_eq_self.mpr λi hi=>decide_eq_true λz=>nd.2.2 i hi m List.mem_cons_self z;have e2 : [m].filter (λi=>decide (i≠m)) = []:=by simp
  rw[e1,e2,List.append_nil]at h2;exact h2.symm
 ·rw[List.pairwise_map];exact(List.pairwise_lt_range.filter _).imp λh=>by omega
def zag:DSp:=λws Q=>∃(rs:List (Int×Int)),ws = [.val (.tuple (rs.map pD))]/\1<=rs.length/\rs.length<=8/\∀m:Nat,m<rs.length->(∀i,i<rs.length->kp rs i<=kp rs m/\(kp rs i=kp rs m->i<=m))->Q (.val (otD ((List.range rs.length).filter (λi=>decide (i≠m)) ++ [m])))
theorem zd1(B:Blt mg){T:Addr}(F:Fun K "best_order" "best_order" xm f fd){c:Addr}(hB:jk mg base)(hC:PySem.W.CodeHd base c T)(hcd:fd.code=.ref c):FnOk P w K mg base CX0 4 f fd ["road"] (qp "best_order.<locals>.<lambda>" T (yf K zag)):=by
 refine F.dokT sc_best_order (λws Q h=>?_) (λA outer s H ws Q E hr hT h=>?_)
 ·obtain⟨rs,rfl,_⟩:=h;rfl
 obtain⟨rs,rfl,h1,h8,q⟩:=h;refine⟨_,(zg (y2 (i:=1) sc_best_order.nd rfl (Or.inl rfl) (DF.de (zmb (k:=0) (y := "number") (n := "road") (i:=0) rfl hr rfl B.sorted rfl B.range (ze (z5 vf rfl B.len PySem.boot_len (zp (zf 0) zw)) zv) hT hC hcd hB rfl rfl rfl (by exact⟨rfl,rfl,rfl,by decide +kernel,rfl,rfl,by decide +kernel⟩) rfl rfl rfl (by first|exact Or.inl rfl|exact Or.inr (Or.inl rfl)|exact Or.inr (Or.inr rfl)) (λ_ _ _ _=>rfl) (λA outer s H E f cd cs hr=>(yw (ze (wg (DE.dv (wg (zf 1) (ya 0) (λ_ _=>rfl))) zr (λ_ _=>rfl)) (ze (ya 0) zv))))))) (zq (yc (wx ki rfl B.tupleT boot_tuple (zp (DE.dv (yt wf (DE.dv (DF.de (zcn zfq rfl B.sorted boot_sorted (zp (DE.dv (va (zf 1) vy (vc (v6 zr)))) zw)))) (DE.dv (va (zf 1) (vc (v6 zr)) vy)))) zw))))),?_⟩;walk_at "ds";rw[List.length_map,Int.toNat_natCast,zar];refine⟨by omega,by omega,λd=>[kp rs (deI d).toNat,deI d],λx hx=>?_,λys hp pw=>?_⟩
 ·obtain⟨i,hi,rfl⟩:=List.mem_map.mp hx;simp only[nI];walk_at "ds";refine⟨λz=>(by cases z),_,j5 (List.mem_range.mp hi),?_⟩;simp only[pD];walk_at "ds";exact⟨_,zb9 _ _ _,rfl⟩
 ·obtain⟨o,po,rfl⟩:=j4 hp;have lo:o.length=rs.length:=by rw[po.length_eq,List.length_range]
  have hne:o ≠ []:=λz=>by rw[z]at lo;simp at lo;omega
  obtain⟨p,m,rfl⟩:∃p m,o=p ++ [m]:=⟨_,_,(List.dropLast_concat_getLast hne).symm⟩
  have hm:m<rs.length:=List.mem_range.mp (po.mem_iff.mp (by simp));rw[sliceD_dropLast,zho _ (by simp)];have e1:((p ++ [m]).map nI).dropLast=p.map nI:=by rw[List.map_append];exact List.dropLast_concat
  have e2:((p ++ [m]).map nI).getLast (by simp)=nI m:=by simp
  rw[e1,e2,List.length_map];have lp:p.length<64:=by rw[List.length_append,List.length_singleton]at lo;omega
  refine⟨lp,.inl ⟨p.map λi:Nat=>(i:Int),by rw[List.map_map];rfl,?_⟩⟩;rw[zmg po,List.map_map];have lf:=List.length_filter_le (λi=>decide (i≠m)) (List.range rs.length);rw[List.length_range]at lf;refine⟨by rw[List.length_map,List.length_singleton];omega,?_⟩;have:=q m hm λi hi=>?_
  ·unfold otD at this;rw[List.map_append]at this;exact this
  ·by_cases c:i=m
   ·subst c;exact⟨Int.le_refl _,λ_=>Nat.le_refl _⟩
   ·have hi2:i∈p:=by
     have:=po.mem_iff.mpr (List.mem_range.mpr hi);rcases List.mem_append.mp this with h|h
     ·exact h
     ·exact absurd (List.mem_singleton.mp h) c
    rw[List.map_append,List.pairwise_append]at pw;have:=pw.2.2 (nI i) (List.mem_map.mpr ⟨i,hi2,rfl⟩) (nI m) (by simp);simp only[nI,deI,Int.toNat_natCast,zuf]at this;omega
theorem zde{α:Type}:∀(l:List α) {k:Nat} (h:k<l.length),(l[k]::l.eraseIdx k).Perm l
 |a::l,0,_=>.refl _
 |a::l,k+1,h=>by
  have:=zde l (k:=k) (by simpa using h);exact(List.Perm.swap _ _ _).trans (this.cons a)
theorem zah{α β:Type}(f:α->β):∀(l:List α) (k:Nat),(l.map f).eraseIdx k=(l.eraseIdx k).map f
 |[],_=>rfl
 |_::_,0=>rfl
 |a::l,k+1=>by simp[zah f l k]
def zai:DSp:=λws Q=>∃n:Nat,ws = [.pen,.val (.int n)]/\n<=8/\∀o:List Nat,o.Perm (List.range n)->Q (.val (otD o))
theorem zd2(B:Blt mg)(F:Fun K "_law_order" "_law_order" xr f fd)(C__law_draw:Cal P w K mg base 2 "_law_draw" ["_law_pen", "_law_many"] (yf K xj)):FnOk P w K mg base CX0 3 f fd ["_law_pen", "_law_many"] (yf K zai):=by
 refine F.dok sc__law_order (λws Q h=>?_) (λcdv A outer s H ws Q E hr h=>?_)
 ·obtain⟨n,rfl,_⟩:=h;rfl
 obtain⟨n,rfl,h8,q⟩:=h;refine⟨_,(zg (zb8 (i:=2) sc__law_order.nd rfl (Or.inl rfl) (zg0 rfl B.listT rfl B.range rfl (ze (ya 1) zv))) (zg (zb8 (i:=3) sc__law_order.nd rfl (Or.inl rfl) (xv zv)) (zg (zn1 PassesOwn.never (y3 (zgp hr) (zf 2) (DE.dv (DF.de (xv zv))) (yn _)) (zq (zq5 3 (zo2 2 (yd C__law_draw hr rfl (yj 0 (xi (z5 vf rfl B.len PySem.boot_len (zp (zf 2) zw)) ye))))))) (zq (yc (wx ki rfl B.tupleT boot_tuple (zp (zf 3) zw))))))),?_⟩;walk_at "ds";rw[Int.toNat_natCast,zar];refine⟨by omega,by omega,?_⟩;refine zld (λm σ=>∃(l f:List Nat),l.length=m/\(f++l).Perm (List.range n)/\σ = [some .pen,some (.val (.int n)),some (.own (.lst (l.map nI))),some (.own (.lst (f.map nI)))]) n ⟨List.range n,[],List.length_range,List.Perm.refl _,rfl⟩ ?_;rintro m σ N ⟨l,f,hm,hp,rfl⟩ kk;have hl:f.length+l.length=n:=by
  have:=hp.length_eq
  rwa [List.length_append,List.length_range]at this
 walk_at "ds";have lay:Lay (PyData.list (l.map nI)):=by
  have:=qx (l.map λi:Nat=>(i:Int));rw[List.map_map]at this;exact this
 refine⟨lay,qx [],?_⟩;clear lay
 cases l with
 |nil=>
  rw[if_neg (by simp[PyData.eqv,PyData.eqvAll])];rw[List.append_nil]at hp;exact q f hp
 |cons n0 l0=>
  rw[if_pos (by simp[PyData.eqv,PyData.eqvAll,nI])];generalize hns:n0::l0=l at hm hp hl;have pos:0<l.length:=by rw[<-hns];simp
  rw[List.length_map];refine j9 (by omega) (by omega) λz lz hz=>?_;have hzn:z.toNat<l.length:=by omega
  refine⟨rfl,rfl,_,z,z.toNat,nI l[z.toNat],rfl,rfl,rfl,by omega,by omega,?_,by simp[hzn],?_⟩
  ·rw[List.length_map];unfold seqIndex?;simp only[show ¬ z<0 by omega,if_false];rw[if_pos (by simp;omega)]
  refine⟨by rw[List.length_map];omega,kk (m-1) _ (by omega) ⟨l.eraseIdx z.toNat,f ++ [l[z.toNat]],by rw[List.length_eraseIdx,if_pos hzn,hm],?_,(by rw[List.map_append,zah];rfl)⟩⟩;rw[List.append_assoc];exact((zde l hzn).append_left f).trans hp
end
section
variable {P:Program}{w:World}{K:PySem.W.Frag}{mg:Str->Option Value}{base:Heap}{f:Addr}{fd:FuncData}
def jc:DSp:=λws Q=>(ws = [.exc ("NoStep",[])]/\Q (.val (.tuple [.str "step"])))\/∃a b:Int,ws = [.exc ("TooGreat",[("many",a),("most",b)])]/\Q (.val (.tuple [.str "great",.int a,.int b]))
def kx:DSp:=λws Q=>(∃(rs:List (Int×Int)) (d:D),ws = [.val (.int 0),.val (.tuple (rs.map pD)),.val d]/\rs.length<=8/\(∀xs,d=.tuple xs->xs.length<64)/\(za9 rs.length d=false->Q (.val (.tuple [.str "step"])))/\∀o:List Nat,d=otD o->o.Perm (List.range rs.length)->Q (.val (.tuple ((pick rs o).map pD)))) \/
 ∃(rs:List (Int×Int)) (t:Int),ws = [.val (.int 1),.val (.tuple (rs.map pD)),.val (.int t)]/\rs.length<=8/\(6<rs.length->Q (.val (.tuple [.str "great",.int (rs.length:Int),.int 6])))/\(rs.length<=6->∀v,(∀rs',rs'.Perm rs->v<=we rs' t 0)->(∃rs',rs'.Perm rs/\v=we rs' t 0)->Q (.val (.int v)))
theorem zf3(B:Blt mg)(F:Fun K "_law_told" "_law_told" x8 f fd)(XF:Xf K mg)(C_ordered:CalleeX P w K mg base 3 "ordered" ["road", "order"] (kz K zas))(C_least_vain:CalleeX P w K mg base 6 "least_vain" ["road", "time"] (kz K zaf))(C__law_refusal:za3 P w K mg base 1 "_law_refusal" ["_law_e"] (yf K jc)):FnOk P w K mg base CX0 7 f fd ["_law_way", "_law_road_here", "_law_thing"] (yf K kx):=by
 refine F.dok sc__law_told (λws Q h=>?_) (λcdv A outer s H ws Q E hr h=>?_)
 ·rcases h with⟨rs,d,rfl,_⟩ |⟨rs,t,rfl,_⟩ <;> rfl
 rcases h with⟨rs,d,rfl,hl,hx,q1,q2⟩ |⟨rs,t,rfl,hl,q1,q2⟩
 ·obtain⟨ck,mk,kk⟩:=XF.kn;refine⟨_,(zq (zkp (i:=3) (j:=0) (kn := "KnockError") C_ordered C_least_vain C__law_refusal hr mk kk sc__law_told.nd rfl rfl rfl rfl rfl rfl rfl rfl rfl (yj 1 (yj 2 ye)))),?_⟩;walk_at "ds";refine .inl ⟨rs,d,rfl,hl,hx,λc=>⟨List.mem_cons_self,.inl ⟨rfl,q1 c⟩⟩,q2⟩
 ·obtain⟨ck,mk,kk⟩:=XF.kn;refine⟨_,(zq (zkp (i:=3) (j:=0) (kn := "KnockError") C_ordered C_least_vain C__law_refusal hr mk kk sc__law_told.nd rfl rfl rfl rfl rfl rfl rfl rfl rfl (yj 1 (yj 2 ye)))),?_⟩;walk_at "ds";refine .inr ⟨rs,t,rfl,hl,λc=>⟨List.mem_cons_of_mem _ List.mem_cons_self,.inr ⟨_,_,rfl,q1 c⟩⟩,q2⟩
theorem j6{α β:Type}(p:α->Bool)(F:α->β):∀l:List α,l.filterMap (λa=>if p a=true then some (F a) else none)=(l.filter p).map F
 |[]=>rfl
 |a::l=>by
  rw[List.filterMap_cons,List.filter_cons]
  cases e:p a with
  |true=>simp[j6 p F l]
  |false=>simp[j6 p F l]
def nxO(n:Nat)(o:List Nat):List (List Nat):=((List.range n).filter λi=>decide (i∉o)).map λi=>o ++ [i]
def ju:DSp:=λws Q=>∃n:Nat,ws = [.val (.int n)]/\n<=5/\Q (.val (.list ((xu n n).map otD)))
theorem zdf(B:Blt mg)(F:Fun K "_law_orders" "_law_orders" y6 f fd):FnOk P w K mg base CX0 1 f fd ["_law_many"] (yf K ju):=by
 refine F.dok sc__law_orders (λws Q h=>?_) (λcdv A outer s H ws Q E hr h=>?_)
 ·obtain⟨n,rfl,_⟩:=h;rfl
 obtain⟨n,rfl,hl,q⟩:=h;refine⟨_,(zg (y2 (i:=1) sc__law_orders.nd rfl (Or.inl rfl) (DF.de (xv (ze (yw zv) zv zh8)))) (zg (jf PassesOwn.never rfl (vt rfl B.range (ze (ya 0) zv)) (z0 (i:=2) sc__law_orders.nd rfl (Or.inl rfl)) (zg (zb8 (i:=3) sc__law_orders.nd rfl (Or.inl rfl) (xv zv)) (zg (jf PassesOwn.never rfl (zco (ya 1)) (z0 (i:=4) sc__law_orders.nd rfl (Or.inr rfl)) (zq (zlm 3 (vg rfl (N':=["_law_number", "_law_ahead"]) (capt:=["_law_ahead"]) (k:=1) (js:=[4]) ⟨rfl,by decide,rfl,by decide,(.cons rfl .nil),rfl,(.cons rfl (Or.inl rfl) rfl (Or.inl rfl) .nil),rfl,by decide⟩ (DI.w (vt rfl B.range (ze (ya 0) zv))) (λ_ _ _ _=>(z0 (i:=0) (show List.Nodup (["_law_number", "_law_ahead"]:List Str) by decide +kernel) rfl (Or.inl rfl) (Or.inr rfl))) (λ_ _ _ _=>(zfj (y3 (zjt hr) (zf 0) (zf 1) rfl))) (λ_ _ _ _=>(yt wf (zf 1) (DE.dv (yw (ze (ya 0) zv))))))))) (zq (ztn 3 (y2 (i:=1) sc__law_orders.nd rfl (Or.inl rfl) (ya 3))))))) (zq (yc (ya 1))))),?_⟩;walk_at "ds";refine⟨by omega,?_⟩;rw[Int.toNat_natCast,zar];refine v4 (λds σ=>∃(k j:Nat) (u2 u3 u4:Option W),k+j=n/\ds.length=j/\σ = [some (.val (.int n)),some (.val (.list ((xu n k).map otD))),u2,u3,u4]) ?_ ?_ ⟨0,n,none,none,none,by omega,by simp,rfl⟩
 ·rintro d ds σ N ⟨k,j,u2,u3,u4,e1,e2,rfl⟩ kk;rw[List.length_cons]at e2
  have pw:∀m,m<=5->n ^ m<=3125:=λm hm=>by
   have h2:n ^ m<=5 ^ m:=Nat.pow_le_pow_left hl m;have h3:5 ^ m<=5 ^ 5:=Nat.pow_le_pow_right (by decide) hm;have h4:(5:Nat) ^ 5=3125:=by decide
   omega
  have len1:(xu n (k+1)).length<=3125:=Nat.le_trans (jt (n:=n) (k+1)) (pw _ (by omega));walk_at "ds";refine v4 (λds σ=>∃(dn rest:List (List Nat)) (u4:Option W),xu n k=dn++rest/\ds=rest.map otD/\σ = [some (.val (.int n)),some (.val (.list ((xu n k).map otD))),some (.val d),some (.own (.lst ((dn.flatMap (nxO n)).map otD))),u4]) ?_ ?_ ⟨[],xu n k,_,rfl,rfl,rfl⟩
  ·rintro d2 ds2 σ N2 ⟨dn,rest,u4,er,ed,rfl⟩ k2
   cases rest with
   |nil=>cases ed
   |cons o rest=>
    cases ed;walk_at "ds";refine⟨by omega,?_⟩;rw[Int.toNat_natCast,zar];refine⟨by rw[List.length_map,List.length_range];omega,zfk nI (λi=>if decide (i∉o)=true then some (otD (o ++ [i])) else none) (λi hi K hK=>?_) ?_⟩
    ·unfold otD;walk_at "ds";refine⟨Lay.int _,zdc o,?_⟩;rw[zo9];have ol:=(ords_mem.mp (show o∈xu n k by rw[er];simp)).2.1
     by_cases c:i∈o
     ·rw[decide_eq_true c,if_neg (by decide)];rw[decide_eq_false (by simpa using c),if_neg (by decide)]at hK;exact hK
     ·rw[decide_eq_false c,if_pos rfl];rw[decide_eq_true c,if_pos rfl]at hK;walk_at "ds";refine⟨?_,?_⟩
      ·rw[List.length_map];omega
      ·unfold otD at hK;rw[List.map_append]at hK;exact hK
    ·rw[j6]
     have ex:((dn ++ [o]).flatMap (nxO n)).map otD=(dn.flatMap (nxO n)).map otD++(((List.range n).filter λi=>decide (i∉o)).map λi=>otD (o ++ [i])):=by
      rw[List.flatMap_append,List.map_append];simp[nxO]
     have le:((dn ++ [o]).flatMap (nxO n)).length<=3125:=by
      refine Nat.le_trans ?_ len1;show _<=((xu n k).flatMap (nxO n)).length;rw[er,show dn++o::rest=(dn ++ [o])++rest by simp];simp only[List.flatMap_append,List.length_append];omega
     have le2:((dn.flatMap (nxO n)).map otD++(((List.range n).filter λi=>decide (i∉o)).map λi=>otD (o ++ [i]))).length<=3125:=by rw[<-ex,List.length_map];exact le
     rw[List.length_append]at le2;refine⟨by omega,k2 _ ⟨dn ++ [o],rest,_,by rw[er];simp,rfl,(by rw[ex])⟩⟩
  ·rintro σ ⟨dn,rest,u4,er,ed,rfl⟩
   cases rest with
   |cons o rest=>cases ed
   |nil=>
    rw[List.append_nil]at er;walk_at "ds";exact kk _ ⟨k+1,j-1,_,_,_,by omega,by omega,(by rw[<-er];rfl)⟩
 ·rintro σ ⟨k,j,u2,u3,u4,e1,e2,rfl⟩;rw[List.length_nil]at e2;have:k=n:=by omega
  subst this;walk_at "ds";exact q
def zaj:DSp:=λws Q=>∃rs:List (Int×Int),ws = [.val (.list (rs.map pD))]/\1<=rs.length/\rs.length<=8/\Q (.val (.int (ku rs)))
theorem zd3(B:Blt mg)(F:Fun K "_law_least" "_law_least" xt f fd):FnOk P w K mg base CX0 1 f fd ["_law_road_here"] (yf K zaj):=by
 refine F.dok zdv (λws Q h=>?_) (λcdv A outer s H ws Q E hr h=>?_)
 ·obtain⟨rs,rfl,_⟩:=h;rfl
 obtain⟨rs,rfl,h1,h8,q⟩:=h;refine⟨_,(zq (yc (yt wf (DE.dv (z5 (zju rfl) rfl B.sum boot_sum (zp (DE.dv (DF.de (vg rfl (N':=["_law_need", "_law_keep"]) (capt:=[]) (k:=2) (js:=[]) ⟨rfl,by decide,rfl,by decide,.nil,rfl,.nil,rfl,by decide⟩ (xz (DE.dv (va (zf 0) vy (vc (v6 zr))))) (λ_ _ _ _=>(qg (n:=2) rfl (yk (z0 (i:=0) (show List.Nodup (["_law_need", "_law_keep"]:List Str) by decide +kernel) rfl (Or.inl rfl) (Or.inr rfl)) (yk (z0 (i:=1) (show List.Nodup (["_law_need", "_law_keep"]:List Str) by decide +kernel) rfl (Or.inl rfl) (Or.inr rfl)) vp)))) (λ_ _ _ _=>xg) (λ_ _ _ _=>(yt wf (zf 0) (zf 1)))))) zw))) (DE.dv (wg (DE.dv (wg (zf 0) (v6 zr) (λ_ _=>rfl))) zr (λ_ _=>rfl)))))),?_⟩;have hne:rs ≠ []:=λz=>by rw[z]at h1;simp at h1
 obtain⟨p,r,rfl⟩:∃p r,rs=p ++ [r]:=⟨_,_,(List.dropLast_concat_getLast hne).symm⟩
 rw[List.length_append,List.length_singleton]at h8;walk_at "ds";rw[sliceD_dropLast,<-List.map_dropLast,List.dropLast_concat,List.map_append];refine⟨by rw[List.length_map];omega,jq (λr=>r.1+r.2) (λr hr k hk=>?_) ⟨_,vr _,_,zav _ _,?_⟩⟩
 ·simp only[pD];walk_at "ds";exact hk
 ·simp only[pD];walk_at "ds";refine⟨_,zcq _ _,?_⟩;walk_at "ds"
  have e:ku (p ++ [r])=(p.map λr=>r.1+r.2).sum+r.1:=by
   have:∀l:List (Int×Int),(l.map λr=>r.1+r.2).sum=(l.map λr=>r.1).sum+(l.map λr=>r.2).sum:=λl=>by
    induction l with
    |nil=>rfl
    |cons a l ih=>simp only[List.map_cons,List.sum_cons,ih];omega
   unfold ku ka za7;rw[List.dropLast_concat,this,List.map_append,List.sum_append];simp;omega
  rw[e]at q;exact q
def jv:DSp:=λws Q=>∃(rs:List (Int×Int)) (t:Int),ws = [.val (.list (rs.map pD)),.val (.int t)]/\rs.length<=8/\Q (.val (.int (we rs t 0)))
theorem zdg(B:Blt mg)(F:Fun K "_law_worked" "_law_worked" y8 f fd):FnOk P w K mg base CX0 1 f fd ["_law_road_here", "_law_time"] (yf K jv):=by
 refine F.dok sc__law_worked (λws Q h=>?_) (λcdv A outer s H ws Q E hr h=>?_)
 ·obtain⟨rs,t,rfl,_⟩:=h;rfl
 obtain⟨rs,t,rfl,h8,q⟩:=h;refine⟨_,(zg (y2 (i:=2) sc__law_worked.nd rfl (Or.inl rfl) zr) (zg (jf PassesOwn.never rfl (zco (ya 0)) (qg (n:=2) rfl (yk (z0 (i:=3) sc__law_worked.nd rfl (Or.inl rfl)) (yk (z0 (i:=4) sc__law_worked.nd rfl (Or.inl rfl)) vp))) (zg (ww (y3 zlb (zf 1) (zf 3) (yn _)) (zq (yc (ya 2))) yu) (zq (zny (i:=2) (j:=1) rfl sc__law_worked.nd rfl rfl (by decide) rfl rfl (ze (yt wf (zf 2) (zf 3)) (ze (z5 (zng rfl) rfl B.max boot_max (zp (DE.dv zr) (zp (DE.dv (yt zee (DE.dv (yt zee (zf 1) (zf 3))) (zf 4))) zw) xc)) zv)) rfl)))) (zq (yc zr)))),?_⟩;walk_at "ds";refine v4 (λds σ=>∃(rs':List (Int×Int)) (t' wk:Int) (u3 u4:Option W),ds=rs'.map pD/\we rs' t' wk=we rs t 0/\σ = [some (.val (.list (rs.map pD))),some (.val (.int t')),some (.val (.int wk)),u3,u4]) ?_ ?_ ⟨rs,t,0,none,none,rfl,rfl,rfl⟩
 ·rintro d ds σ N ⟨rs',t',wk,u3,u4,e,ev,rfl⟩ k
  cases rs' with
  |nil=>cases e
  |cons r rs'=>
   cases e;simp only[pD];walk_at "ds"
   by_cases c:t' < r.1
   ·rw[if_pos c];have:we (r::rs') t' wk=wk:=by simp[we,qt,c,ka]
    rw[<-ev,this]at q;exact q
   ·rw[if_neg c];have e1:(qt (r::rs') t')=(qt rs' (max (t' - r.1-r.2) 0)).map (·+1):=by simp[qt,c]
    have e2:we (r::rs') t' wk=we rs' (max (t' - r.1-r.2) 0) (wk+r.1):=by
     unfold we;rw[e1]
     cases qt rs' (max (t' - r.1-r.2) 0) with
     |none=>rfl
     |some k=>simp[ka];omega
    rw[Int.max_comm];exact k _ ⟨rs',_,_,_,_,rfl,by rw[<-e2];exact ev,rfl⟩
 ·rintro σ ⟨rs',t',wk,u3,u4,e,ev,rfl⟩
  cases rs' with
  |nil=>
   walk_at "ds";have:we [] t' wk=0:=rfl;rw[<-ev,this]at q;exact q
  |cons r rs'=>cases e
theorem zpa(n:Nat):(jd n).Nodup:=by
 unfold jd List.Nodup;rw[List.pairwise_map];exact List.pairwise_lt_range.imp λh e=>by omega
theorem zpb{l:List Int}:∀{m:List Int},l.Nodup->(∀i∈l,i∈m)->m.length=l.length->l.Perm m:=by
 induction l with
 |nil=>intro m _ _ h;rw[List.length_eq_zero_iff.mp h]
 |cons a l ih=>
  intro m nd hm hl;obtain⟨n1,n2⟩:=List.nodup_cons.mp nd;have ha:=hm a List.mem_cons_self;have hl2:=List.length_erase_of_mem ha;rw[List.length_cons]at hl;have:=ih (m:=m.erase a) n2 (λi hi=>(List.mem_erase_of_ne (λ(z:i=a)=>n1 (z ▸ hi))).mpr (hm i (List.mem_cons_of_mem _ hi))) (by omega);exact(this.cons a).trans (List.perm_cons_erase ha).symm
def vx:DSp:=λws Q=>∃(n:Nat) (d:D),ws = [.val (.int n),.val d]/\n<=8/\(∀xs,d=.tuple xs->xs.length<64)/\Q (.val (.bool (za9 n d)))
theorem zbt(B:Blt mg)(F:Fun K "_law_is_order" "_law_is_order" yq f fd)(C__law_whole:Cal P w K mg base 1 "_law_whole" ["_law_found"] (yf K qu)):FnOk P w K mg base CX0 2 f fd ["_law_many", "_law_thing"] (yf K vx):=by
 refine F.dok zbs (λws Q h=>?_) (λcdv A outer s H ws Q E hr h=>?_)
 ·obtain⟨n,d,rfl,_⟩:=h;rfl
 obtain⟨n,d,rfl,h8,hx,q⟩:=h;refine⟨_,(zg (ww (DWt.dt (zbv (kh (v5 (DE.dv (zbi (n := "tuple") zjv rfl B.isinstance boot_isinstance (zf 1) rfl B.tupleT boot_tuple)))) (zbv (y3 (zgp hr) (DE.dv (z5 vf rfl B.len PySem.boot_len (zp (zf 1) zw))) (zf 0) (yn _)) (zam (kh (v5 (DE.dv (z5 (znj rfl) rfl B.all boot_all (zp (DE.dv (DF.de (vg rfl (N':=["_law_one"]) (capt:=[]) (k:=1) (js:=[]) ⟨rfl,by decide,rfl,by decide,.nil,rfl,.nil,rfl,by decide⟩ (xz (zf 1)) (λ_ _ _ _=>(z0 (i:=0) (show List.Nodup (["_law_one"]:List Str) by decide +kernel) rfl (Or.inl rfl) (Or.inr rfl))) (λ_ _ _ _=>xg) (λ_ _ _ _=>(yd C__law_whole hr rfl (yj 0 ye)))))) zw))))))))) (zq (yc qb)) yu) (zq (yc (z5 (znj rfl) rfl B.all boot_all (zp (DE.dv (DF.de (vg rfl (N':=["_law_number", "_law_thing"]) (capt:=["_law_thing"]) (k:=1) (js:=[1]) ⟨rfl,by decide,rfl,by decide,(.cons rfl .nil),rfl,(.cons rfl (Or.inl rfl) rfl (Or.inl rfl) .nil),rfl,by decide⟩ (DI.w (vt rfl B.range (ze (ya 0) zv))) (λ_ _ _ _=>(z0 (i:=0) (show List.Nodup (["_law_number", "_law_thing"]:List Str) by decide +kernel) rfl (Or.inl rfl) (Or.inr rfl))) (λ_ _ _ _=>xg) (λ_ _ _ _=>(zcl (znf hr) (DE.dv (zlo (zf 1) (ya 0))) (DE.dv zr) (yn _)))))) zw))))),?_⟩
 cases d with
 |tuple xs=>
  have hx:=hx xs rfl;walk_at "ds"
  by_cases c:xs.length=n
  ·rw[if_neg (λz=>z (by rw[c]))];have key:=wd (f:=lcF (zao 0) zei (zej qu (zla 0 zgm)) [none]) (id:D->D) (λx=>.bool (whB x)) (as:=xs) (Q:=λxs_1=>∃ns,ve xs_1=some ns/\if ns.all id=false then Q (Ret.val (PyData.bool false)) else (-2 ^ 62<=(n:Int)/\(n:Int)<2 ^ 62)/\(xb 0 (n:Int).toNat).length<=16777216/\lcD (lcF (zao 0) zei (dOp gEq (zka (zm7 1) (zm6 0)) (dC (PyData.int 1))) [none,some (W.val (PyData.tuple xs))]) (xb 0 (n:Int).toNat) λxs=>∃ns,ve xs=some ns/\Q (Ret.val (PyData.bool (ns.all id)))) (λx hx k hk=>?_) ⟨xs.map whB,?_,?_⟩
   ·rw[List.map_id]at key;exact⟨by omega,key⟩
   ·simp only[id];walk_at "ds";refine⟨x,rfl,?_⟩
    cases x <;> exact hk
   ·have:=zan (xs.map whB);rw[List.map_map]at this;exact this
   ·rw[List.all_map];simp only[za9]at q
    cases e:xs.all whB with
    |false=>
     rw[e]at q;rw[if_pos (by exact e)];exact q
    |true=>
     rw[e,Bool.true_and]at q;rw[if_neg (by rw[show xs.all (id ∘ whB)=true from e];decide)];have ex:=zcc e;have el:(xs.map deI).length=n:=by rw[List.length_map];exact c
     generalize xs.map deI=ns at ex el q;subst ex;rw[Int.toNat_natCast,zr5];refine⟨by omega,by rw[List.length_map];unfold jd;rw[List.length_map,List.length_range];omega,wd PyData.int (λi=>.bool (decide (ns.count i=1))) (λi hi k hk=>?_) ⟨(jd n).map λi=>decide (ns.count i=1),?_,?_⟩⟩
     ·walk_at "ds";refine⟨ns,rfl,?_⟩;walk_at "ds";have:decide (((ns.count i:Nat):Int)=1)=decide (ns.count i=1):=decide_eq_decide.mpr (by omega);rw[this];exact hk
     ·have:=zan ((jd n).map λi=>decide (ns.count i=1));rw[List.map_map]at this;exact this
     ·rw[List.all_map]
      have:(jd n).all (id ∘ λi=>decide (ns.count i=1))=decide (ji ns=jd n):=by
       by_cases s:ji ns=jd n
       ·rw[decide_eq_true s];refine List.all_eq_true.mpr λi hi=>decide_eq_true ?_;have p:ns.Perm (jd n):=by rw[<-s];exact(zap ns).symm
        rw[p.count_eq];exact Nat.le_antisymm (List.nodup_iff_count.mp (zpa n) i) (List.count_pos_iff.mpr hi)
       ·rw[decide_eq_false s];refine Bool.eq_false_iff.mpr λz=>s ?_;have z:=List.all_eq_true.mp z;have p:=zpb (zpa n) (λi hi=>List.count_pos_iff.mp (by have h1:ns.count i=1:=of_decide_eq_true (z i hi);rw[h1];exact Nat.one_pos)) (by rw[el];simp[jd]);exact(qh p (zo8 n)).symm
      rw[this];exact q
  ·rw[if_pos (λz=>c (by omega))]
   have:za9 n (.tuple xs)=false:=by
    refine Bool.eq_false_iff.mpr λz=>?_;obtain⟨o,eo,hp⟩:=zf2 z
    cases eo;rw[List.length_map,hp.length_eq,List.length_range]at c;exact c rfl
   rw[this]at q;exact q
 |_=>walk_at "ds";exact q
def zb0:DSp:=λws Q=>ws = [.pen]/\∀d:D,(∀xs,d=.tuple xs->xs.length<=3)->Q (.val d)
theorem zhp(B:Blt mg)(F:Fun K "_law_odd" "_law_odd" wo f fd)(C__law_draw:Cal P w K mg base 2 "_law_draw" ["_law_pen", "_law_many"] (yf K xj)):FnOk P w K mg base CX0 3 f fd ["_law_pen"] (yf K zb0):=by
 refine F.dok sc__law_odd (λws Q h=>?_) (λcdv A outer s H ws Q E hr h=>?_)
 ·obtain⟨rfl,_⟩:=h;rfl
 obtain⟨rfl,q⟩:=h;refine⟨_,(zg (y2 (i:=1) sc__law_odd.nd rfl (Or.inl rfl) (DF.de (xv (ze zfd (ze qb (ze qb (ze (v6 zr) (ze yy (ze yy (ze (DF.de (xv zv)) (ze (yw zv) (ze zqe (ze (yw (ze zr zv xc)) (ze (yt zro (DE.dv zr) (DE.dv zr)) (ze yy (ze (DF.de (xv (ze zr (ze zr zv xc) xc))) (ze (yw (ze (yw (ze zr (ze zr zv xc) xc)) zv zh8)) (ze zq3 (ze (yw (ze zr (ze zr (ze zr zv xc) xc) xc)) zv zh8)) zh8) zsz) xc)) zh8)) zh8) zsz) xc) xc)) xc) xc) xc)))) (zq (yc (wg (zf 1) (yd C__law_draw hr rfl (yj 0 (xi (z5 vf rfl B.len PySem.boot_len (zp (zf 1) zw)) ye))) (λ_ _=>rfl))))),?_⟩;walk_at "ds";refine⟨by unfold zsl;decide,?_⟩;refine j9 (by first|decide|omega) (by first|decide|omega) λx lx hx=>?_;walk_at "ds";refine zrt (by omega) (by simp only[List.length_cons,List.length_nil];omega) λd hd=>q d ?_;simp only[List.mem_cons,List.not_mem_nil,or_false]at hd;rcases hd with rfl|rfl|rfl|rfl|rfl|rfl|rfl|rfl|rfl|rfl|rfl|rfl|rfl|rfl|rfl|rfl <;> intro xs e <;> cases e <;> decide
theorem log_small:∀j:Nat,j<8->(Int.natAbs (j:Int)).log2<1920:=by decide +kernel
def zba:DSp:=λws Q=>∃o:List Nat,ws = [.pen,.val (otD o)]/\1<=o.length/\o.length<=8/\(∀i∈o,i<8)/\∀d:D,(∀xs,d=.tuple xs->xs.length<64)->Q (.val d)
theorem zf4(B:Blt mg)(F:Fun K "_law_bent" "_law_bent" x9 f fd)(C__law_draw:Cal P w K mg base 2 "_law_draw" ["_law_pen", "_law_many"] (yf K xj))(C__law_odd:Cal P w K mg base 3 "_law_odd" ["_law_pen"] (yf K zb0)):FnOk P w K mg base CX0 4 f fd ["_law_pen", "_law_order_here"] (yf K zba):=by
 refine F.dok sc__law_bent (λws Q h=>?_) (λcdv A outer s H ws Q E hr h=>?_)
 ·obtain⟨o,rfl,_⟩:=h;rfl
 obtain⟨o,rfl,h1,h8,hi8,q⟩:=h;refine⟨_,(zg (zqa (i:=2) (j:=3) (k:=4) rfl sc__law_bent.nd rfl rfl rfl (by decide) (by decide) (by decide) rfl rfl rfl (ze (yd C__law_draw hr rfl (yj 0 (xi zr ye xc))) (ze (yd C__law_draw hr rfl (yj 0 (xi (z5 vf rfl B.len PySem.boot_len (zp (zf 1) zw)) ye))) (ze (yd C__law_odd hr rfl (yj 0 ye)) zv))) rfl) (zg (zny (i:=5) (j:=6) rfl sc__law_bent.nd rfl rfl (by decide) rfl rfl (ze (va (zf 1) vy (vc (ya 3))) (ze (va (zf 1) (vc (yt wf (zf 3) (DE.dv zr))) vy) zv)) rfl) (zg (y2 (i:=7) sc__law_bent.nd rfl (Or.inl rfl) (DF.de (xv (ze (wg (zf 1) zr (λ_ _=>rfl)) (ze (wg (zf 1) (v6 zr) (λ_ _=>rfl)) (ze (z5 vf rfl B.len PySem.boot_len (zp (zf 1) zw)) (ze (v6 zr) (ze qb (ze qb (ze zfd (ze (wx zvf rfl B.strT boot_str (zp (DE.dv (wg (zf 1) (ya 3) (λ_ _=>rfl))) zw)) (ze (ya 4) zv)) xc) xc) xc)))))))) (zg (ww (y3 zlb (zf 2) (DE.dv (z5 vf rfl B.len PySem.boot_len (zp (zf 7) zw))) (yn _)) (zq (yc (yt wf (DE.dv (yt wf (zf 5) (DE.dv (yw (ze (wg (zf 7) (ya 2) (λ_ _=>rfl)) zv))))) (zf 6)))) yu) (zq (yc (wg (DE.dv (DF.de (xv (ze (yt wf (zf 5) (zf 6)) (ze (yt wf (zf 1) (DE.dv (yw (ze (z5 vf rfl B.len PySem.boot_len (zp (zf 1) zw)) zv)))) (ze (DF.de (zef zni rfl B.listT boot_list (zp (zf 1) zw))) (ze (yt wf (DE.dv (yt wf (zf 5) (zf 6))) (zf 6)) zv))))))) (yt zee (zf 2) (DE.dv (z5 vf rfl B.len PySem.boot_len (zp (zf 7) zw)))) (λ_ _=>rfl)))))))),?_⟩;unfold otD;walk_at "ds";refine j9 (by first|decide|omega) (by first|decide|omega) λx lx hx=>?_;walk_at "ds";rw[List.length_map];refine j9 (by omega) (by omega) λa la ha=>?_;refine⟨rfl,λd2 hd2=>?_⟩;walk_at "ds";have hne:o ≠ []:=λz=>by rw[z]at h1;simp at h1
 obtain⟨y0,hy0,_⟩:=zim (xs:=o.map nI) (k:=0) (by decide) (by rw[List.length_map];omega);obtain⟨p,r,eo⟩:∃p r,o=p ++ [r]:=⟨_,_,(List.dropLast_concat_getLast hne).symm⟩
 have hy1:atI (o.map nI) (-1)=some (nI r):=by rw[eo,List.map_append];exact zav _ _
 have haN:a.toNat<o.length:=by omega
 have hy2:atI (o.map nI) a=some (nI o[a.toNat]):=by
  have:=qm (xs:=o.map nI) (j:=a.toNat) (v:=nI o[a.toNat]) (by simp[haN])
  rwa [Int.toNat_of_nonneg la]at this
 refine⟨y0,hy0,_,hy1,_,hy2,?_⟩;simp only[nI];walk_at "ds";refine⟨log_small _ (hi8 _ (List.getElem_mem haN)),?_⟩;have l1:∀lo hi,(y9 (o.map nI) lo hi).length<=8:=λlo hi=>by
  have:=zin (o.map nI) lo hi;rw[List.length_map]at this;omega
 have l2:=l1 none (some a);have l3:=l1 (some (a+1)) none
 by_cases c:x<9
 ·rw[if_pos (by omega)];obtain⟨d,hd,_⟩:=zim (xs:=[y0,PyData.int r,PyData.int o.length,PyData.int (-1),PyData.bool true,PyData.bool false,PyData.none,PyData.str (Str.ofString (toString (o[a.toNat]:Int))),d2]) (k:=x) lx (by simp only[List.length_cons,List.length_nil];omega);refine⟨d,hd,by omega,by rw[List.length_append,List.length_singleton];omega,q _ λxs e=>?_⟩
  cases e;rw[List.length_append,List.length_append,List.length_singleton];omega
 ·rw[if_neg (by omega)];refine⟨by omega,by omega,by omega,by rw[List.length_append];omega,?_⟩;walk_at "ds";obtain⟨d,hd,hm⟩:=zim (xs:=[PyData.tuple (y9 (o.map nI) none (some a)++y9 (o.map nI) (some (a+1)) none),PyData.tuple (o.map nI ++ [PyData.int o.length]),PyData.list (o.map nI),PyData.tuple (y9 (o.map nI) none (some a)++y9 (o.map nI) (some (a+1)) none++y9 (o.map nI) (some (a+1)) none)]) (k:=x-9) (by omega) (by simp only[List.length_cons,List.length_nil];omega);refine⟨d,hd,q _ λxs e=>?_⟩;subst e;simp only[List.mem_cons,List.not_mem_nil,or_false]at hm;rcases hm with e|e|e|e
  ·cases e;rw[List.length_append];omega
  ·cases e;rw[List.length_append,List.length_map,List.length_singleton];omega
  ·cases e
  ·cases e;rw[List.length_append,List.length_append];omega
end
section
variable {P:Program}{w:World}{K:PySem.W.Frag}{mg:Str->Option Value}{base:Heap}{f:Addr}{fd:FuncData}
theorem zb6(B:Blt mg)(F:Fun K "_law_refusal" "_law_refusal" y1 f fd)(XF:Xf K mg):FnH P w K mg base 1 f fd ["_law_e"] (yf K jc):=by
 refine F.dokH sc__law_refusal (λws Q h=>?_) (λcdv A outer s H ws Q hr h=>?_)
 ·rcases h with⟨rfl,_⟩ |⟨a,b,rfl,_⟩ <;> rfl
 rcases h with⟨rfl,q⟩ |⟨a,b,rfl,q⟩
 ·obtain⟨cx_NoBeat,mx_NoBeat,kx_NoBeat⟩:=XF.i_NoBeat;obtain⟨cx_NoStep,mx_NoStep,kx_NoStep⟩:=XF.i_NoStep;obtain⟨cx_NoNumber,mx_NoNumber,kx_NoNumber⟩:=XF.i_NoNumber;obtain⟨cx_NoLine,mx_NoLine,kx_NoLine⟩:=XF.i_NoLine;obtain⟨cx_NoStory,mx_NoStory,kx_NoStory⟩:=XF.i_NoStory;obtain⟨cx_NoText,mx_NoText,kx_NoText⟩:=XF.i_NoText;obtain⟨cx_TooGreat,mx_TooGreat,kx_TooGreat⟩:=XF.i_TooGreat;have kt_0:=XF.t_0;refine⟨_,(zg (y2 (i:=1) sc__law_refusal.nd rfl (Or.inl rfl) (DF.de (xv (ze (w5 0 (c:=.ref cx_NoBeat) (cv:=.ref cx_NoBeat) (λ_ h=>h) kx_NoBeat rfl B.isinstance boot_isinstance (xy (u:=.ref cx_NoBeat) rfl mx_NoBeat rfl)) (ze (w5 0 (c:=.ref cx_NoStep) (cv:=.ref cx_NoStep) (λ_ h=>h) kx_NoStep rfl B.isinstance boot_isinstance (xy (u:=.ref cx_NoStep) rfl mx_NoStep rfl)) (ze (w5 0 (c:=.ref cx_NoNumber) (cv:=.ref cx_NoNumber) (λ_ h=>h) kx_NoNumber rfl B.isinstance boot_isinstance (xy (u:=.ref cx_NoNumber) rfl mx_NoNumber rfl)) (ze (w5 0 (c:=.ref cx_NoLine) (cv:=.ref cx_NoLine) (λ_ h=>h) kx_NoLine rfl B.isinstance boot_isinstance (xy (u:=.ref cx_NoLine) rfl mx_NoLine rfl)) zv))))))) (zg (y2 (i:=1) sc__law_refusal.nd rfl (Or.inl rfl) (yt wf (zf 1) (DE.dv (DF.de (xv (ze (w5 0 (c:=.ref cx_NoStory) (cv:=.ref cx_NoStory) (λ_ h=>h) kx_NoStory rfl B.isinstance boot_isinstance (xy (u:=.ref cx_NoStory) rfl mx_NoStory rfl)) (ze (w5 0 (c:=.ref cx_NoText) (cv:=.ref cx_NoText) (λ_ h=>h) kx_NoText rfl B.isinstance boot_isinstance (xy (u:=.ref cx_NoText) rfl mx_NoText rfl)) (ze (w5 0 (c:=.ref cx_TooGreat) (cv:=.ref cx_TooGreat) (λ_ h=>h) kx_TooGreat rfl B.isinstance boot_isinstance (xy (u:=.ref cx_TooGreat) rfl mx_TooGreat rfl)) zv)))))))) (zg (ww (DWt.dt (zbv (kh (v5 (DE.dv (w5 0 (c:=.type "ValueError") (cv:=.ty "ValueError") (λ_ h=>h) XF.b_ValueError rfl B.isinstance boot_isinstance (vm (u:=.type "ValueError") rfl B.ValueError (by decide +kernel) rfl))))) (zam (v5 (DE.dv (zkb 0 (cs:=[.type "LookupError",.type "TypeError",.type "ArithmeticError",.type "RuntimeError"]) (cvs:=[.ty "LookupError",.ty "TypeError",.ty "ArithmeticError",.ty "RuntimeError"]) (zc2 [(.ty "LookupError",.type "LookupError"),(.ty "TypeError",.type "TypeError"),(.ty "ArithmeticError",.type "ArithmeticError"),(.ty "RuntimeError",.type "RuntimeError")] (by intro p hp u hu;simp only[List.mem_cons,List.not_mem_nil,or_false]at hp;rcases hp with rfl|rfl|rfl|rfl <;> exact hu)) kt_0 rfl B.isinstance boot_isinstance (vh (vm (u:=.type "LookupError") rfl B.LookupError (by decide +kernel) rfl) (vh (vm (u:=.type "TypeError") rfl B.TypeError (by decide +kernel) rfl) (vh (vm (u:=.type "ArithmeticError") rfl B.ArithmeticError (by decide +kernel) rfl) (vh (vm (u:=.type "RuntimeError") rfl B.RuntimeError (by decide +kernel) rfl) zha)))) (Nat.le_of_ble_eq_true rfl))))))) (zq (yc (yw (ze yy zv xc)))) yu) (zg (ww (y3 (zry hr) (DE.dv (zey (zf 1) qb)) (DE.dv zr) (yn _)) (zq (yc (yw (ze yy zv xc)))) yu) (zg (y2 (i:=2) sc__law_refusal.nd rfl (Or.inl rfl) (wg (DE.dv (DF.de (xv (ze yy (ze yy (ze yy (ze yy (ze yy (ze yy (ze yy zv xc) xc) xc) xc) xc) xc) xc)))) (zez (zf 1) qb) (λ_ _=>rfl))) (zg (ww (y3 (zex hr) (zf 2) (DE.dv yy) (yn _)) (zq (yc (yw (ze (ya 2) (ze (zca 0 XF.f_many) (ze (zca 0 XF.f_most) zv)))))) yu) (zg (ww (y3 (zex hr) (zf 2) (DE.dv yy) (yn _)) (zq (yc (yw (ze (ya 2) (ze j3 zv))))) yu) (zq (yc (zgn (y3 (zex hr) (zf 2) (DE.dv yy) (yn _)) (yw (ze (ya 2) (ze j3 zv))) (yw (ze (ya 2) zv)))))))))))),?_⟩;walk_at "ds"
  simp only[show qi (["NoStep", "TooGreat"]:List Str) "NoBeat" "NoStep" = some false by decide +kernel,show qi (["NoStep", "TooGreat"]:List Str) "NoStep" "NoStep" = some true by decide +kernel,show qi (["NoStep", "TooGreat"]:List Str) "NoNumber" "NoStep" = some false by decide +kernel,show qi (["NoStep", "TooGreat"]:List Str) "NoLine" "NoStep" = some false by decide +kernel,show qi (["NoStep", "TooGreat"]:List Str) "NoStory" "NoStep" = some false by decide +kernel,show qi (["NoStep", "TooGreat"]:List Str) "NoText" "NoStep" = some false by decide +kernel,show qi (["NoStep", "TooGreat"]:List Str) "TooGreat" "NoStep" = some false by decide +kernel,show zhb (["NoStep", "TooGreat"]:List Str) true "NoStep" = some true by decide +kernel,show zhb (["NoStep", "TooGreat"]:List Str) false "NoStep" = some false by decide +kernel];walk_at "ds";simp only[show ve [.bool false,.bool true,.bool false,.bool false,.bool false,.bool false,.bool false]=some [false,true,false,false,false,false,false] by rfl,show List.count true [false,true,false,false,false,false,false]=1 by decide,show List.findIdx? (λx=>x == true) [false,true,false,false,false,false,false]=some 1 by decide];walk_at "ds";refine⟨_,qm (j:=1) rfl,?_⟩;simp only[show ¬ (Str.ofString "step" = Str.ofString "great") by decide +kernel];walk_at "ds";exact q
 ·obtain⟨cx_NoBeat,mx_NoBeat,kx_NoBeat⟩:=XF.i_NoBeat;obtain⟨cx_NoStep,mx_NoStep,kx_NoStep⟩:=XF.i_NoStep;obtain⟨cx_NoNumber,mx_NoNumber,kx_NoNumber⟩:=XF.i_NoNumber;obtain⟨cx_NoLine,mx_NoLine,kx_NoLine⟩:=XF.i_NoLine;obtain⟨cx_NoStory,mx_NoStory,kx_NoStory⟩:=XF.i_NoStory;obtain⟨cx_NoText,mx_NoText,kx_NoText⟩:=XF.i_NoText;obtain⟨cx_TooGreat,mx_TooGreat,kx_TooGreat⟩:=XF.i_TooGreat;have kt_0:=XF.t_0;refine⟨_,(zg (y2 (i:=1) sc__law_refusal.nd rfl (Or.inl rfl) (DF.de (xv (ze (w5 0 (c:=.ref cx_NoBeat) (cv:=.ref cx_NoBeat) (λ_ h=>h) kx_NoBeat rfl B.isinstance boot_isinstance (xy (u:=.ref cx_NoBeat) rfl mx_NoBeat rfl)) (ze (w5 0 (c:=.ref cx_NoStep) (cv:=.ref cx_NoStep) (λ_ h=>h) kx_NoStep rfl B.isinstance boot_isinstance (xy (u:=.ref cx_NoStep) rfl mx_NoStep rfl)) (ze (w5 0 (c:=.ref cx_NoNumber) (cv:=.ref cx_NoNumber) (λ_ h=>h) kx_NoNumber rfl B.isinstance boot_isinstance (xy (u:=.ref cx_NoNumber) rfl mx_NoNumber rfl)) (ze (w5 0 (c:=.ref cx_NoLine) (cv:=.ref cx_NoLine) (λ_ h=>h) kx_NoLine rfl B.isinstance boot_isinstance (xy (u:=.ref cx_NoLine) rfl mx_NoLine rfl)) zv))))))) (zg (y2 (i:=1) sc__law_refusal.nd rfl (Or.inl rfl) (yt wf (zf 1) (DE.dv (DF.de (xv (ze (w5 0 (c:=.ref cx_NoStory) (cv:=.ref cx_NoStory) (λ_ h=>h) kx_NoStory rfl B.isinstance boot_isinstance (xy (u:=.ref cx_NoStory) rfl mx_NoStory rfl)) (ze (w5 0 (c:=.ref cx_NoText) (cv:=.ref cx_NoText) (λ_ h=>h) kx_NoText rfl B.isinstance boot_isinstance (xy (u:=.ref cx_NoText) rfl mx_NoText rfl)) (ze (w5 0 (c:=.ref cx_TooGreat) (cv:=.ref cx_TooGreat) (λ_ h=>h) kx_TooGreat rfl B.isinstance boot_isinstance (xy (u:=.ref cx_TooGreat) rfl mx_TooGreat rfl)) zv)))))))) (zg (ww (DWt.dt (zbv (kh (v5 (DE.dv (w5 0 (c:=.type "ValueError") (cv:=.ty "ValueError") (λ_ h=>h) XF.b_ValueError rfl B.isinstance boot_isinstance (vm (u:=.type "ValueError") rfl B.ValueError (by decide +kernel) rfl))))) (zam (v5 (DE.dv (zkb 0 (cs:=[.type "LookupError",.type "TypeError",.type "ArithmeticError",.type "RuntimeError"]) (cvs:=[.ty "LookupError",.ty "TypeError",.ty "ArithmeticError",.ty "RuntimeError"]) (zc2 [(.ty "LookupError",.type "LookupError"),(.ty "TypeError",.type "TypeError"),(.ty "ArithmeticError",.type "ArithmeticError"),(.ty "RuntimeError",.type "RuntimeError")] (by intro p hp u hu;simp only[List.mem_cons,List.not_mem_nil,or_false]at hp;rcases hp with rfl|rfl|rfl|rfl <;> exact hu)) kt_0 rfl B.isinstance boot_isinstance (vh (vm (u:=.type "LookupError") rfl B.LookupError (by decide +kernel) rfl) (vh (vm (u:=.type "TypeError") rfl B.TypeError (by decide +kernel) rfl) (vh (vm (u:=.type "ArithmeticError") rfl B.ArithmeticError (by decide +kernel) rfl) (vh (vm (u:=.type "RuntimeError") rfl B.RuntimeError (by decide +kernel) rfl) zha)))) (Nat.le_of_ble_eq_true rfl))))))) (zq (yc (yw (ze yy zv xc)))) yu) (zg (ww (y3 (zry hr) (DE.dv (zey (zf 1) qb)) (DE.dv zr) (yn _)) (zq (yc (yw (ze yy zv xc)))) yu) (zg (y2 (i:=2) sc__law_refusal.nd rfl (Or.inl rfl) (wg (DE.dv (DF.de (xv (ze yy (ze yy (ze yy (ze yy (ze yy (ze yy (ze yy zv xc) xc) xc) xc) xc) xc) xc)))) (zez (zf 1) qb) (λ_ _=>rfl))) (zg (ww (y3 (zex hr) (zf 2) (DE.dv yy) (yn _)) (zq (yc (yw (ze (ya 2) (ze (zca 0 XF.f_many) (ze (zca 0 XF.f_most) zv)))))) yu) (zg (ww (y3 (zex hr) (zf 2) (DE.dv yy) (yn _)) (zq (yc (yw (ze (ya 2) (ze j3 zv))))) yu) (zq (yc (zgn (y3 (zex hr) (zf 2) (DE.dv yy) (yn _)) (yw (ze (ya 2) (ze j3 zv))) (yw (ze (ya 2) zv)))))))))))),?_⟩;walk_at "ds"
  simp only[show qi (["NoStep", "TooGreat"]:List Str) "NoBeat" "TooGreat" = some false by decide +kernel,show qi (["NoStep", "TooGreat"]:List Str) "NoStep" "TooGreat" = some false by decide +kernel,show qi (["NoStep", "TooGreat"]:List Str) "NoNumber" "TooGreat" = some false by decide +kernel,show qi (["NoStep", "TooGreat"]:List Str) "NoLine" "TooGreat" = some false by decide +kernel,show qi (["NoStep", "TooGreat"]:List Str) "NoStory" "TooGreat" = some false by decide +kernel,show qi (["NoStep", "TooGreat"]:List Str) "NoText" "TooGreat" = some false by decide +kernel,show qi (["NoStep", "TooGreat"]:List Str) "TooGreat" "TooGreat" = some true by decide +kernel,show zhb (["NoStep", "TooGreat"]:List Str) true "TooGreat" = some true by decide +kernel,show zhb (["NoStep", "TooGreat"]:List Str) false "TooGreat" = some false by decide +kernel];walk_at "ds";simp only[show ve [.bool false,.bool false,.bool false,.bool false,.bool false,.bool false,.bool true]=some [false,false,false,false,false,false,true] by rfl,show List.count true [false,false,false,false,false,false,true]=1 by decide,show List.findIdx? (λx=>x == true) [false,false,false,false,false,false,true]=some 6 by decide];walk_at "ds";refine⟨_,qm (j:=6) rfl,?_⟩;have e1:List.lookup ("many" : Str) [(("many" : Str),a),("most",b)]=some a:=by rw[List.lookup_cons,show(("many" : Str) == "many")=true by decide +kernel]
  have e2:List.lookup ("most" : Str) [(("many" : Str),a),("most",b)]=some b:=by rw[List.lookup_cons,show(("most" : Str) == "many")=false by decide +kernel,List.lookup_cons,show(("most" : Str) == "most")=true by decide +kernel]
  walk_at "ds";refine⟨λy e=>by cases e;exact List.mem_cons_self,?_⟩;rw[e1];refine⟨λy e=>by cases e;exact List.mem_cons_self,?_⟩;rw[e2];exact q
end
section
variable {P:Program}{w:World}{K:PySem.W.Frag}{mg:Str->Option Value}{base:Heap}{f:Addr}{fd:FuncData}
theorem zhq:∀(s:List Nat) (m:Nat) (o:List Nat),s.Pairwise (· < ·)->m∉s->o.Perm (s ++ [m])->(∀p l,o=p ++ [l]->l<=m)->¬ (o.map λi:Nat=>(i:Int))<((s ++ [m]).map λi:Nat=>(i:Int))
 |[],m,o,_,_,hp,_=>by
  rw[List.nil_append]at hp ⊢;rw[List.perm_singleton.mp hp];exact List.lt_irrefl _
 |a::s,m,o,pw,hm,hp,hl=>by
  rw[List.pairwise_cons]at pw
  cases o with
  |nil=>exact absurd hp.symm.eq_nil (by simp)
  |cons x o'=>
   rw[List.cons_append]at hp ⊢;rw[List.map_cons,List.map_cons,List.cons_lt_cons_iff]
   by_cases c:x=a
   ·subst c;have hp':=hp.cons_inv;rintro (h |⟨_,h⟩)
    ·exact absurd h (Int.lt_irrefl _)
    ·exact zhq s m o' pw.2 (λz=>hm (List.mem_cons_of_mem _ z)) hp' (λp l e=>hl (x::p) l (by rw[e];rfl)) h
   ·have hx:x∈s ++ [m]:=by
     rcases List.mem_cons.mp (hp.mem_iff.mp List.mem_cons_self) with h|h
     ·exact absurd h c
     ·exact h
    have lt:a<x:=by
     rcases List.mem_append.mp hx with h|h
     ·exact pw.1 x h
     ·have ex:x=m:=List.mem_singleton.mp h;subst ex
      by_cases q:a<x
      ·exact q
      ·exfalso;have xa:x<a:=by omega
       have hp2:o'.Perm (a::s):=by
        have:(x::o').Perm (x::(a::s)):=hp.trans (by rw[<-List.cons_append];exact List.perm_append_comm);exact this.cons_inv
       have hne:o' ≠ []:=λz=>by rw[z]at hp2;exact absurd hp2.symm.eq_nil (by simp)
       have e:=List.dropLast_concat_getLast hne;have h1:=hl (x::o'.dropLast) (o'.getLast hne) (by rw[List.cons_append,e]);have h2:=hp2.mem_iff.mp (List.getLast_mem hne);rcases List.mem_cons.mp h2 with h2|h2
       ·omega
       ·have:=pw.1 _ h2;omega
    rintro (h |⟨h,_⟩)
    ·omega
    ·omega
theorem zdh{rs:List (Int×Int)}{p:List Nat}{l:Nat}(hp:(p ++ [l]).Perm (List.range rs.length)):ku (pick rs (p ++ [l]))=ka rs+za7 rs-kp rs l:=by
 have n1:pick rs (p ++ [l]) ≠ []:=by unfold pick;simp
 rw[zmd n1,zme (pick_perm hp),zmf (pick_perm hp)];have e1:((pick rs (p ++ [l])).getLast n1).2=kp rs l:=by
  unfold pick kp;simp
 rw[e1]
theorem j7{n m:Nat}(h:m<n):((List.range n).filter (λi=>decide (i≠m)) ++ [m]).Perm (List.range n):=by
 have e:(List.range n).filter (λi=>decide (i≠m))=(List.range n).erase m:=by
  rw[List.Nodup.erase_eq_filter List.nodup_range];exact List.filter_congr λi _=>by by_cases c:i=m <;> simp[c]
 rw[e];exact(List.perm_append_comm).trans (List.perm_cons_erase (List.mem_range.mpr h)).symm
def bst(n m:Nat):List Nat:=(List.range n).filter (λi=>decide (i≠m)) ++ [m]
def oZ(o:List Nat):List Int:=o.map λi:Nat=>(i:Int)
def ky(rs:List (Int×Int))(o:List Nat):Int×List Int:=(ku (pick rs o),oZ o)
theorem zpc{rs:List (Int×Int)}{m:Nat}(hm:m<rs.length)(hmax:∀i,i<rs.length->kp rs i<=kp rs m/\(kp rs i=kp rs m->i<=m)){o:List Nat}(hp:o.Perm (List.range rs.length)):¬ kL (ky rs o)<kL (ky rs (bst rs.length m)):=by
 have lp:=j7 hm;have hne:o ≠ []:=λz=>by
  rw[z]at hp;have:=hp.length_eq;rw[List.length_nil,List.length_range]at this;omega
 obtain⟨p,l,rfl⟩:∃p l,o=p ++ [l]:=⟨_,_,(List.dropLast_concat_getLast hne).symm⟩
 have hl:l<rs.length:=List.mem_range.mp (hp.mem_iff.mp (by simp));have h1:=hmax l hl;unfold ky kL bst;rw[zdh hp,zdh lp,List.cons_lt_cons_iff];rintro (h |⟨h,h2⟩)
 ·omega
 ·refine zhq _ m (p ++ [l]) (List.pairwise_lt_range.filter _) (λz=>?_) (hp.trans lp.symm) (λp' l' e=>?_) h2
  ·have:=(List.mem_filter.mp z).2;exact of_decide_eq_true this rfl
  ·obtain⟨_,e2⟩:=List.append_inj' e rfl
   cases e2;exact h1.2 (by simp only at h;omega)
theorem zpd{rs:List (Int×Int)}{m:Nat}(hm:m<rs.length)(hmax:∀i,i<rs.length->kp rs i<=kp rs m/\(kp rs i=kp rs m->i<=m)){l:Int×List Int}(hl:l∈(xu rs.length rs.length).map (ky rs))(hn:∀l'∈(xu rs.length rs.length).map (ky rs),¬ kL l' < kL l):l=ky rs (bst rs.length m):=by
 obtain⟨o,ho,rfl⟩:=List.mem_map.mp hl;have h1:=zpc hm hmax (ords_perm.mp ho);have h2:=hn _ (List.mem_map.mpr ⟨bst rs.length m,ords_perm.mpr (j7 hm),rfl⟩);have:kL (ky rs o)=kL (ky rs (bst rs.length m)):=List.le_antisymm (List.not_lt.mp h2) (List.not_lt.mp h1);unfold kL at this;injection this with a b
 exact Prod.ext a b
theorem ze1{p:Nat->Bool}{m:Nat}(hp:p m=true):∀n,(∀i,i<n->p i=true->i<=m)->m<n->∃q,(List.range n).filter p=q ++ [m]
 |0,_,h=>absurd h (Nat.not_lt_zero _)
 |n+1,hall,h=>by
  rw[List.range_succ,List.filter_append]
  by_cases c:n=m
  ·subst c;exact⟨_,by rw[List.filter_cons,if_pos hp,List.filter_nil]⟩
  ·obtain⟨q,e⟩:=ze1 hp n (λi hi=>hall i (by omega)) (by omega);refine⟨q,?_⟩;have:p n=false:=Bool.eq_false_iff.mpr λz=>by have:=hall n (Nat.lt_succ_self _) z;omega
   rw[List.filter_cons,this,if_neg (by decide),List.filter_nil,List.append_nil,e]
theorem zre(rs:List (Int×Int)):(List.range' 0 rs.length).zip rs=(List.range rs.length).map λi=>(i,rs.getD i (0,0)):=by
 refine List.ext_getElem (by simp) λi h1 h2=>?_;have hi:i<rs.length:=by simpa using h2
 simp[List.getD_eq_getElem?_getD,hi]
theorem zhr{α:Type}(g:α->D):∀(os:List α) (k:Nat),qf k (os.map g)=((List.range' k os.length).zip os).map λp=>PyData.tuple [.int (p.1:Int),g p.2]
 |[],k=>rfl
 |x::os,k=>by
  rw[List.map_cons,qf,zhr g os (k+1),List.length_cons,List.range'_succ,List.zip_cons_cons,List.map_cons]
end
section
variable {P:Program}{w:World}{K:PySem.W.Frag}{mg:Str->Option Value}{base:Heap}{f:Addr}{fd:FuncData}
theorem zpe(rs:List (Int×Int))(o:List Nat):kyD (ky rs o)=.tuple [.int (ku (pick rs o)),otD o]:=by
 unfold kyD ky tD otD oZ;rw[List.map_map];rfl
theorem zrf{rs:List (Int×Int)}{t:Int}(h:∀r∈rs,1<=r.1/\r.1<=1000/\0<=r.2/\r.2<=1000):0<=we rs t 0/\we rs t 0<=1000 * rs.length:=by
 have nb:∀l:List (Int×Int),(∀r∈l,1<=r.1/\r.1<=1000/\0<=r.2/\r.2<=1000)->0<=ka l/\ka l<=1000 * l.length:=λl=>by
  induction l with
  |nil=>intro _;exact⟨Int.le_refl _,Int.le_refl _⟩
  |cons r l ih=>
   intro h;have a:=h r List.mem_cons_self;have b:=ih λx hx=>h x (List.mem_cons_of_mem _ hx);unfold ka at b ⊢;rw[List.map_cons,List.sum_cons,List.length_cons];omega
 unfold we
 cases qt rs t with
 |none=>simp only;omega
 |some k=>
  have:=nb (rs.take k) λr hr=>h r (List.mem_of_mem_take hr);have l:(rs.take k).length<=rs.length:=by rw[List.length_take];omega
  simp only;omega
theorem zje{x:Int}(h:0<=x/\x<=8):Lay (.tuple [.str (Str.ofString "great"),.int x,.int 6]):=by
 obtain⟨n,rfl⟩:∃n:Nat,x=n:=⟨x.toNat,by omega⟩
 have hn:n<9:=by omega
 have:∀n:Nat,n<9->SeqAt.shaped (.tuple [.str (Str.ofString "great"),.int (n:Int),.int 6])=true:=by decide +kernel
 exact this n hn
def qj:DSp:=λws Q=>∃rs:List (Int×Int),ws = [.pen,.val (.tuple (rs.map pD))]/\OkR rs/\Q (.val (.bool true))
theorem zat(B:Blt mg){T:Addr}(F:Fun K "_law_best_right" "_law_best_right" yi f fd)(C_least_time:Cal P w K mg base 2 "least_time" ["road"] (yf K zac))(C_best_order:Cal P w K mg base 4 "best_order" ["road"] (qp "best_order.<locals>.<lambda>" T (yf K zag)))(C__law_draw:Cal P w K mg base 2 "_law_draw" ["_law_pen", "_law_many"] (yf K xj))(C__law_orders:Cal P w K mg base 1 "_law_orders" ["_law_many"] (yf K ju))(C__law_told:Cal P w K mg base 7 "_law_told" ["_law_way", "_law_road_here", "_law_thing"] (yf K kx))(C__law_is_order:Cal P w K mg base 2 "_law_is_order" ["_law_many", "_law_thing"] (yf K vx))(C__law_least:Cal P w K mg base 1 "_law_least" ["_law_road_here"] (yf K zaj))(C__law_worked:Cal P w K mg base 1 "_law_worked" ["_law_road_here", "_law_time"] (yf K jv)):FnOk P w K mg base CX0 8 f fd ["_law_pen", "_law_road_here"] (qp "best_order.<locals>.<lambda>" T (yf K qj)):=by
 refine F.dokT sc__law_best_right (λws Q h=>?_) (λA outer s H ws Q E hr hT h=>?_)
 ·obtain⟨rs,rfl,_⟩:=h;rfl
 obtain⟨rs,rfl,ok,q⟩:=h;refine⟨_,(zg (y2 (i:=2) sc__law_best_right.nd rfl (Or.inr rfl) (va (zf 1) vy (vc zr))) (zg (y2 (i:=3) sc__law_best_right.nd rfl (Or.inl rfl) (z5 (zuc rfl hr) rfl B.min boot_min (zp (DE.dv (DF.de (vg rfl (N':=["_law_order_here", "_law_few"]) (capt:=["_law_few"]) (k:=1) (js:=[2]) ⟨rfl,by decide,rfl,by decide,(.cons rfl .nil),rfl,(.cons rfl (Or.inl rfl) rfl (Or.inl rfl) .nil),rfl,by decide⟩ (xz (DE.dv (yd C__law_orders hr rfl (xi (z5 vf rfl B.len PySem.boot_len (zp (zf 2) zw)) ye)))) (λ_ _ _ _=>(z0 (i:=0) (show List.Nodup (["_law_order_here", "_law_few"]:List Str) by decide +kernel) rfl (Or.inl rfl) (Or.inr rfl))) (λ_ _ _ _=>xg) (λ_ _ _ _=>(yw (ze (yd C__law_least hr rfl (xi (DF.de (vg rfl (N':=["_law_number", "_law_few"]) (capt:=["_law_few"]) (k:=1) (js:=[1]) ⟨rfl,by decide,rfl,by decide,(.cons rfl .nil),rfl,(.cons rfl (Or.inl rfl) rfl (Or.inl rfl) .nil),rfl,by decide⟩ (xz (zf 0)) (λ_ _ _ _=>(z0 (i:=0) (show List.Nodup (["_law_number", "_law_few"]:List Str) by decide +kernel) rfl (Or.inl rfl) (Or.inr rfl))) (λ_ _ _ _=>xg) (λ_ _ _ _=>(wg (zf 1) (ya 0) (λ_ _=>rfl))))) ye)) (ze (ya 0) zv))))))) zw))) (zg (ww (DWt.dt (zbv (y3 (zgp hr) (DE.dv (zc5 C_best_order hT hr rfl (yj 2 ye))) (DE.dv (wg (zf 3) zr (λ_ _=>rfl))) (yn _)) (zam (y3 (zgp hr) (DE.dv (yd C_least_time hr rfl (xi (wx ki rfl B.tupleT boot_tuple (zp (DE.dv (DF.de (vg rfl (N':=["_law_number", "_law_few"]) (capt:=["_law_few"]) (k:=1) (js:=[2]) ⟨rfl,by decide,rfl,by decide,(.cons rfl .nil),rfl,(.cons rfl (Or.inl rfl) rfl (Or.inl rfl) .nil),rfl,by decide⟩ (xz (DE.dv (wg (zf 3) zr (λ_ _=>rfl)))) (λ_ _ _ _=>(z0 (i:=0) (show List.Nodup (["_law_number", "_law_few"]:List Str) by decide +kernel) rfl (Or.inl rfl) (Or.inr rfl))) (λ_ _ _ _=>xg) (λ_ _ _ _=>(wg (zf 1) (ya 0) (λ_ _=>rfl)))))) zw)) ye))) (DE.dv (wg (zf 3) zr (λ_ _=>rfl))) (yn _))))) (zq (yc qb)) yu) (zg (y2 (i:=4) sc__law_best_right.nd rfl (Or.inl rfl) (zc5 C_best_order hT hr rfl (yj 1 ye))) (zg (ww (DWt.dt (zbv (kh (v5 (DE.dv (yd C__law_is_order hr rfl (xi (z5 vf rfl B.len PySem.boot_len (zp (zf 1) zw)) (yj 4 ye)))))) (zam (y3 (zgp hr) (DE.dv (DF.de (zef zni rfl B.listT boot_list (zp (DE.dv (va (zf 4) vy (vc (v6 zr)))) zw)))) (DE.dv (DF.de (zcn zfq rfl B.sorted boot_sorted (zp (DE.dv (va (zf 4) vy (vc (v6 zr)))) zw)))) (yn _))))) (zq (yc qb)) yu) (zg (zn4 (i:=5) sc__law_best_right.nd rfl (Or.inl rfl) rfl (N':=["_law_number", "_law_house", "_law_road_here"]) (capt:=["_law_road_here"]) (k:=2) (js:=[1]) ⟨rfl,by decide,rfl,by decide,(.cons rfl .nil),rfl,(.cons rfl (Or.inl rfl) rfl (Or.inl rfl) .nil),rfl,by decide⟩ (DI.w (zgu rfl B.enumerate (ze (ya 1) zv))) (λ_ _ _ _=>(qg (n:=2) rfl (yk (z0 (i:=0) (show List.Nodup (["_law_number", "_law_house", "_law_road_here"]:List Str) by decide +kernel) rfl (Or.inl rfl) (Or.inr rfl)) (yk (z0 (i:=1) (show List.Nodup (["_law_number", "_law_house", "_law_road_here"]:List Str) by decide +kernel) rfl (Or.inl rfl) (Or.inr rfl)) vp)))) (λ_ _ _ _=>(zfj (y3 (znf hr) (DE.dv (wg (zf 1) zr (λ_ _=>rfl))) (DE.dv (z5 (ztw rfl) rfl B.max boot_max (zp (DE.dv (DF.de (vg rfl (N':=["_law_need", "_law_keep"]) (capt:=[]) (k:=2) (js:=[]) ⟨rfl,by decide,rfl,by decide,.nil,rfl,.nil,rfl,by decide⟩ (xz (zf 2)) (λ_ _ _ _=>(qg (n:=2) rfl (yk (z0 (i:=0) (show List.Nodup (["_law_need", "_law_keep"]:List Str) by decide +kernel) rfl (Or.inl rfl) (Or.inr rfl)) (yk (z0 (i:=1) (show List.Nodup (["_law_need", "_law_keep"]:List Str) by decide +kernel) rfl (Or.inl rfl) (Or.inr rfl)) vp)))) (λ_ _ _ _=>xg) (λ_ _ _ _=>(ya 1))))) zw))) (yn _)))) (λ_ _ _ _=>(ya 0))) (zg (y2 (i:=6) sc__law_best_right.nd rfl (Or.inr rfl) (yd C__law_draw hr rfl (yj 0 (xi (yt wf (DE.dv (z5 (zju rfl) rfl B.sum boot_sum (zp (DE.dv (DF.de (vg rfl (N':=["_law_need", "_law_keep"]) (capt:=[]) (k:=2) (js:=[]) ⟨rfl,by decide,rfl,by decide,.nil,rfl,.nil,rfl,by decide⟩ (xz (zf 2)) (λ_ _ _ _=>(qg (n:=2) rfl (yk (z0 (i:=0) (show List.Nodup (["_law_need", "_law_keep"]:List Str) by decide +kernel) rfl (Or.inl rfl) (Or.inr rfl)) (yk (z0 (i:=1) (show List.Nodup (["_law_need", "_law_keep"]:List Str) by decide +kernel) rfl (Or.inl rfl) (Or.inr rfl)) vp)))) (λ_ _ _ _=>xg) (λ_ _ _ _=>(yt wf (zf 0) (zf 1)))))) zw))) (DE.dv zr)) ye)))) (zg (y2 (i:=7) sc__law_best_right.nd rfl (Or.inl rfl) (z5 (zn8 rfl) rfl B.min boot_min (zp (DE.dv (DF.de (vg rfl (N':=["_law_order_here", "_law_time", "_law_few"]) (capt:=["_law_time", "_law_few"]) (k:=1) (js:=[6,2]) ⟨rfl,by decide,rfl,by decide,(.cons rfl (.cons rfl .nil)),rfl,(.cons rfl (Or.inl rfl) rfl (Or.inl rfl) (.cons rfl (Or.inl rfl) rfl (Or.inl rfl) .nil)),rfl,by decide⟩ (xz (DE.dv (yd C__law_orders hr rfl (xi (z5 vf rfl B.len PySem.boot_len (zp (zf 2) zw)) ye)))) (λ_ _ _ _=>(z0 (i:=0) (show List.Nodup (["_law_order_here", "_law_time", "_law_few"]:List Str) by decide +kernel) rfl (Or.inl rfl) (Or.inr rfl))) (λ_ _ _ _=>xg) (λ_ _ _ _=>(yd C__law_worked hr rfl (xi (DF.de (vg rfl (N':=["_law_number", "_law_few"]) (capt:=["_law_few"]) (k:=1) (js:=[2]) ⟨rfl,by decide,rfl,by decide,(.cons rfl .nil),rfl,(.cons rfl (Or.inl rfl) rfl (Or.inl rfl) .nil),rfl,by decide⟩ (xz (zf 0)) (λ_ _ _ _=>(z0 (i:=0) (show List.Nodup (["_law_number", "_law_few"]:List Str) by decide +kernel) rfl (Or.inl rfl) (Or.inr rfl))) (λ_ _ _ _=>xg) (λ_ _ _ _=>(wg (zf 1) (ya 0) (λ_ _=>rfl))))) (yj 1 ye))))))) zw))) (zg (ww (DWt.dt (zbv (y3 (zgp hr) (DE.dv (wg (zf 4) (v6 zr) (λ_ _=>rfl))) (DE.dv (wg (zf 5) (v6 zr) (λ_ _=>rfl))) (yn _)) (zam (y3 (zgp hr) (DE.dv (za0 hr rfl B.repr boot_repr (qw (DE.dn (yd C__law_told hr rfl (xi zr (yj 2 (yj 6 ye)) xc))) zaz))) (DE.dv (za0 hr rfl B.repr boot_repr (qw (zii 7) zaz))) (yn _))))) (zq (yc qb)) yu) (zq (yc (zvb (zcl zlb (DE.dv (z5 vf rfl B.len PySem.boot_len (zp (zf 1) zw))) (DE.dv zr) (yn _)) (zia (zcl (znf hr) (DE.dv (yd C__law_told hr rfl (xi zr (yj 1 (yj 6 ye)) xc))) (DE.dv (yw (ze yy (ze (z5 vf rfl B.len PySem.boot_len (zp (zf 1) zw)) (ze zr zv xc)) xc))) (yn _))))))))))))))),?_⟩
 have h8:=ok.hi;have h1:=ok.lo;refine wa (λσ=>σ = [some .pen,some (.val (.tuple (rs.map pD))),some (.val (.tuple ((rs.take 5).map pD))),none,none,none,none,none]) (λN hN=>?_) ?_
 ·walk_at "ds"
  have es:y9 (rs.map pD) none (some 5)=(rs.take 5).map pD:=by
   rw[sliceD_take0 _ (by decide),List.map_take];rfl
  rw[es];exact hN _ rfl
 rintro σ rfl;generalize hfs:rs.take 5=fs;have fl:fs.length<=5:=by rw[<-hfs,List.length_take];omega
 have f1:1<=fs.length:=by rw[<-hfs,List.length_take];omega
 have lenO:(xu fs.length fs.length).length<=3125:=by
  have h1:=jt (n:=fs.length) fs.length;have h2:fs.length ^ fs.length<=5 ^ fs.length:=Nat.pow_le_pow_left fl _;have h3:5 ^ fs.length<=5 ^ 5:=Nat.pow_le_pow_right (by decide) fl;have h4:(5:Nat) ^ 5=3125:=by decide
  omega
 refine wa (λσ=>∃l,l∈(xu fs.length fs.length).map (ky fs)/\(∀l'∈(xu fs.length fs.length).map (ky fs),¬ kL l' < kL l)/\σ = [some .pen,some (.val (.tuple (rs.map pD))),some (.val (.tuple (fs.map pD))),some (.val (kyD l)),none,none,none,none]) (λN hN=>?_) ?_
 ·walk_at "ds";refine⟨fs.length,by rw[List.length_map],fl,?_⟩;walk_at "ds";refine⟨by rw[List.length_map];omega,wd otD (λo=>kyD (ky fs o)) (λo ho k hk=>?_) ⟨(xu fs.length fs.length).map (ky fs),by rw[List.map_map];rfl,λz=>?_,λl hl hn=>?_⟩⟩
  ·have hp:=ords_perm.mp ho;have olen:o.length=fs.length:=by rw[hp.length_eq,List.length_range]
   unfold otD;walk_at "ds";refine⟨by rw[List.length_map];omega,wd nI (λi=>pD (fs.getD i (0,0))) (λi hi k2 hk2=>?_) ?_⟩
   ·simp only[nI];walk_at "ds";exact⟨_,j5 (List.mem_range.mp (hp.mem_iff.mp hi)),hk2⟩
   ·refine⟨pick fs o,by unfold pick;rw[List.map_map];rfl,by rw[(pick_perm hp).length_eq];omega,by rw[(pick_perm hp).length_eq];omega,?_⟩;rw[zpe]at hk;exact hk
  ·have:(xu fs.length fs.length).length=0:=by rw[<-List.length_map (f:=ky fs),z];rfl
   have:=List.length_pos_of_mem (ords_perm.mpr (List.Perm.refl (List.range fs.length)));omega
  ·exact hN _ ⟨l,hl,hn,rfl⟩
 rintro σ ⟨l,hl,hn,rfl⟩;refine wa (λσ=>∃u3:Option W,σ = [some .pen,some (.val (.tuple (rs.map pD))),some (.val (.tuple (fs.map pD))),u3,none,none,none,none]) (λN hN=>?_) ?_
 ·walk_at "ds";refine⟨fs,rfl,f1,by omega,λm hm hmax=>?_⟩;have el:=zpd hm hmax hl hn;have lp:(bst fs.length m).Perm (List.range fs.length):=j7 hm;have bl:(bst fs.length m).length=fs.length:=by have:=lp.length_eq;rwa [List.length_range]at this
  rw[el,zpe];walk_at "ds";refine⟨_,zb9 _ _ _,?_⟩;show _;unfold otD;walk_at "ds";refine⟨zdc _,zdc _,?_⟩;rw[show(PyData.tuple (List.map nI (List.filter (λi=>decide (i≠m)) (List.range fs.length) ++ [m]))).eqv (PyData.tuple (List.map nI (bst fs.length m)))=true from zcs (zdc (bst fs.length m)),if_neg (by decide)];refine⟨_,zb9 _ _ _,?_⟩;walk_at "ds";refine⟨by rw[List.length_map];omega,wd nI (λi=>pD (fs.getD i (0,0))) (λi hi k2 hk2=>?_) ?_⟩
  ·simp only[nI];walk_at "ds";exact⟨_,j5 (List.mem_range.mp (lp.mem_iff.mp hi)),hk2⟩
  ·refine⟨pick fs (bst fs.length m),by unfold pick;rw[List.map_map];rfl,by rw[(pick_perm lp).length_eq];omega,?_⟩;refine⟨_,zcq _ _,?_⟩;walk_at "ds";rw[if_neg (λz=>z trivial)];exact hN _ ⟨_,rfl⟩
 rintro σ ⟨u3,rfl⟩;refine wa (λσ=>∃m,m<rs.length/\(∀i,i<rs.length->kp rs i<=kp rs m/\(kp rs i=kp rs m->i<=m))/\σ = [some .pen,some (.val (.tuple (rs.map pD))),some (.val (.tuple (fs.map pD))),u3,some (.val (otD (bst rs.length m))),none,none,none]) (λN hN=>?_) ?_
 ·walk_at "ds";refine⟨rs,rfl,h1,h8,λm hm hmax=>?_⟩;exact hN _ ⟨m,hm,hmax,rfl⟩
 rintro σ ⟨m,hm,hmax,rfl⟩;have lp:(bst rs.length m).Perm (List.range rs.length):=j7 hm;have bl:(bst rs.length m).length=rs.length:=by have:=lp.length_eq;rwa [List.length_range]at this
 have sl:y9 ((bst rs.length m).map nI) none (some (-1))=((List.range rs.length).filter (λi=>decide (i≠m))).map nI:=by
  rw[sliceD_dropLast,<-List.map_dropLast];unfold bst;rw[List.dropLast_concat]
 have sll:((List.range rs.length).filter (λi=>decide (i≠m))).length<=8:=by
  have:=List.length_filter_le (λi=>decide (i≠m)) (List.range rs.length);rw[List.length_range]at this;omega
 refine wa (λσ=>σ = [some .pen,some (.val (.tuple (rs.map pD))),some (.val (.tuple (fs.map pD))),u3,some (.val (otD (bst rs.length m))),none,none,none]) (λN hN=>?_) ?_
 ·walk_at "ds";refine⟨rs.length,_,by rw[List.length_map],h8,λxs e=>(by cases e;rw[List.length_map];omega),?_⟩;rw[zjc lp];unfold otD;walk_at "ds";rw[sl];refine⟨by rw[List.length_map];omega,.inl ⟨oZ ((List.range rs.length).filter (λi=>decide (i≠m))),by unfold oZ;rw[List.map_map];rfl,?_⟩⟩
  have so:ji (oZ ((List.range rs.length).filter (λi=>decide (i≠m))))=oZ ((List.range rs.length).filter (λi=>decide (i≠m))):=by
   refine(qh (List.Perm.refl _) ?_).symm;unfold oZ;rw[List.pairwise_map];exact(List.pairwise_lt_range.filter _).imp λh=>by omega
  have eo:(oZ ((List.range rs.length).filter (λi=>decide (i≠m)))).map PyData.int=((List.range rs.length).filter (λi=>decide (i≠m))).map nI:=by unfold oZ;rw[List.map_map];rfl
  have ly:=qx (oZ ((List.range rs.length).filter (λi=>decide (i≠m))));rw[so,<-eo];refine⟨ly,ly,?_⟩;rw[zcs ly,if_neg (by decide)];exact hN _ rfl
 rintro σ rfl;refine wa (λσ=>∃qs:List Nat,σ = [some .pen,some (.val (.tuple (rs.map pD))),some (.val (.tuple (fs.map pD))),u3,some (.val (otD (bst rs.length m))),some (.val (.list ((qs ++ [m]).map nI))),none,none]) (λN hN=>?_) ?_
 ·walk_at "ds";rw[zhr,zre,List.map_map];refine⟨by rw[List.length_map,List.length_range];omega,zfk _ (λi=>if decide (kp rs i=kp rs m)=true then some (nI i) else none) (λi hi k hk=>?_) ?_⟩
  ·have hi:=List.mem_range.mp hi;simp only[Function.comp,pD];walk_at "ds";refine⟨_,zb9 _ _ _,?_⟩;rw[List.length_map];refine⟨by omega,jq (λr=>r.2) (λr hr k hk=>?_) ⟨_,vr _,by rw[List.length_map];omega,λx hx hge=>?_⟩⟩
   ·simp only[pD];walk_at "ds";exact hk
   ·have ex:x=kp rs m:=by
     obtain⟨r,hr,rfl⟩:=List.mem_map.mp hx;obtain⟨j,hj,ej⟩:=List.mem_iff_getElem.mp hr;have a1:=(hmax j hj).1;have a2:=hge (kp rs m) (List.mem_map.mpr ⟨rs.getD m (0,0),by rw[List.getD_eq_getElem?_getD,List.getElem?_eq_getElem hm];exact List.getElem_mem hm,rfl⟩);unfold kp at a1 a2 ⊢;rw[List.getD_eq_getElem?_getD,List.getElem?_eq_getElem hj,Option.getD_some,ej]at a1;exact Int.le_antisymm a1 a2
    subst ex;walk_at "ds"
    by_cases e:kp rs i=kp rs m
    ·rw[decide_eq_true e,if_pos rfl]at hk;rw[if_pos (by exact e)];exact hk
    ·rw[decide_eq_false e,if_neg (by decide)]at hk;rw[if_neg (by exact e)];exact hk
  ·rw[j6];obtain⟨qs,eq⟩:=ze1 (p:=λi=>decide (kp rs i=kp rs m)) (m:=m) (decide_eq_true rfl) rs.length (λi hi z=>(hmax i hi).2 (of_decide_eq_true z)) hm;rw[eq];exact hN _ ⟨qs,rfl⟩
 rintro σ ⟨qs,rfl⟩;refine wa (λσ=>∃t:Int,0<=t/\σ = [some .pen,some (.val (.tuple (rs.map pD))),some (.val (.tuple (fs.map pD))),u3,some (.val (otD (bst rs.length m))),some (.val (.list ((qs ++ [m]).map nI))),some (.val (.int t)),none]) (λN hN=>?_) ?_
 ·walk_at "ds";rw[List.length_map];refine⟨by omega,jq (λr=>r.1+r.2) (λr hr k hk=>?_) ⟨_,vr _,?_⟩⟩
  ·simp only[pD];walk_at "ds";exact hk
  ·have sb:∀l:List (Int×Int),(∀r∈l,1<=r.1/\r.1<=1000/\0<=r.2/\r.2<=1000)->0<=(l.map λr=>r.1+r.2).sum/\(l.map λr=>r.1+r.2).sum<=2000 * l.length:=λl=>by
    induction l with
    |nil=>intro _;exact⟨Int.le_refl _,Int.le_refl _⟩
    |cons r l ih=>
     intro h;have a:=h r List.mem_cons_self;have b:=ih λx hx=>h x (List.mem_cons_of_mem _ hx);rw[List.map_cons,List.sum_cons,List.length_cons];omega
   have b:=sb fs λr hr=>ok.all r (by rw[<-hfs]at hr;exact List.mem_of_mem_take hr);refine j9 (by omega) (by omega) λt lt ht=>?_;exact hN _ ⟨t,lt,rfl⟩
 rintro σ ⟨t,lt,rfl⟩;refine wa (λσ=>∃v:Int,(∀rs',rs'.Perm fs->v<=we rs' t 0)/\(∃rs',rs'.Perm fs/\v=we rs' t 0)/\σ = [some .pen,some (.val (.tuple (rs.map pD))),some (.val (.tuple (fs.map pD))),u3,some (.val (otD (bst rs.length m))),some (.val (.list ((qs ++ [m]).map nI))),some (.val (.int t)),some (.val (.int v))]) (λN hN=>?_) ?_
 ·walk_at "ds";refine⟨fs.length,by rw[List.length_map],fl,?_⟩;walk_at "ds";refine⟨by rw[List.length_map];omega,wd otD (λo=>.int (we (pick fs o) t 0)) (λo ho k hk=>?_) ⟨(xu fs.length fs.length).map λo=>we (pick fs o) t 0,?_,?_,λv hv hle=>?_⟩⟩
  ·have hp:=ords_perm.mp ho;have olen:o.length=fs.length:=by rw[hp.length_eq,List.length_range]
   unfold otD;walk_at "ds";refine⟨by rw[List.length_map];omega,wd nI (λi=>pD (fs.getD i (0,0))) (λi hi k2 hk2=>?_) ?_⟩
   ·simp only[nI];walk_at "ds";exact⟨_,j5 (List.mem_range.mp (hp.mem_iff.mp hi)),hk2⟩
   ·exact⟨pick fs o,t,by unfold pick;rw[List.map_map];rfl,by rw[(pick_perm hp).length_eq];omega,hk⟩
  ·have:=vr ((xu fs.length fs.length).map λo=>we (pick fs o) t 0);rw[List.map_map]at this;exact this
  ·rw[List.length_map];exact List.length_pos_of_mem (ords_perm.mpr (List.Perm.refl _))
  ·obtain⟨o,ho,rfl⟩:=List.mem_map.mp hv;refine hN _ ⟨_,λrs' h=>?_,⟨pick fs o,pick_perm (ords_perm.mp ho),rfl⟩,rfl⟩;obtain⟨o',h1,rfl⟩:=ze0 h;exact hle _ (List.mem_map.mpr ⟨o',ords_perm.mpr h1,rfl⟩)
 rintro σ ⟨v,v1,v2,rfl⟩;refine wa (λσ=>σ = [some .pen,some (.val (.tuple (rs.map pD))),some (.val (.tuple (fs.map pD))),u3,some (.val (otD (bst rs.length m))),some (.val (.list ((qs ++ [m]).map nI))),some (.val (.int t)),some (.val (.int v))]) (λN hN=>?_) ?_
 ·unfold otD;walk_at "ds";have b1:atI ((bst rs.length m).map nI) (-1)=some (nI m):=by unfold bst;rw[List.map_append];exact zav _ _
  have b2:atI ((qs ++ [m]).map nI) (-1)=some (nI m):=by rw[List.map_append];exact zav _ _
  refine⟨_,b1,_,b2,?_⟩;simp only[nI];walk_at "ds";rw[if_neg (λz=>z trivial)];refine .inr ⟨fs,t,rfl,by omega,λz=>absurd z (by omega),λ_ w w1 w2=>?_⟩;have:v=w:=by
   obtain⟨a,ha,rfl⟩:=v2;obtain⟨b,hb,rfl⟩:=w2;have:=v1 b hb;have:=w1 a ha;omega
  subst this;walk_at "ds";have bd:0<=v/\v<=1000000:=by
   obtain⟨a,ha,rfl⟩:=v2;have:=zrf (rs:=a) (t:=t) λr hr=>ok.all r (by have:=ha.mem_iff.mp hr;rw[<-hfs]at this;exact List.mem_of_mem_take this);have:=ha.length_eq;omega
  have sh:Sh (.int v) 41 0:=Sh.intB (by omega) (by omega);refine⟨rfl,sh.rep (by decide) (by decide) (λb z=>by cases z) ⟨rfl,sh.rep (by decide) (by decide) (λb z=>by cases z) ?_⟩⟩;walk_at "ds";rw[if_neg (λz=>z trivial)];exact hN _ rfl
 rintro σ rfl;walk_at "ds";rw[List.length_map]
 by_cases c7:rs.length<7
 ·rw[if_pos (by omega)];exact q
 ·rw[if_neg (by omega)];refine .inr ⟨rs,t,rfl,h8,λ_=>?_,λz=>absurd z (by omega)⟩;walk_at "ds";have ly:Lay (PyData.tuple [.str (Str.ofString "great"),.int (rs.length:Int),.int 6]):=zje (by omega);refine⟨ly,ly,?_⟩;rw[zcs ly];exact q
end
section
variable {P:Program}{w:World}{K:PySem.W.Frag}{mg:Str->Option Value}{base:Heap}{f:Addr}{fd:FuncData}
theorem zrg{rs:List (Int×Int)}(h:∀r∈rs,1<=r.1/\r.1<=1000/\0<=r.2/\r.2<=1000)(hl:rs.length<=8):Sh (.tuple (rs.map pD)) (8 *(89+2)+3) 2:=Sh.tup (n:=89) (k:=1) (m:=8) (λx hx=>by
 obtain⟨r,hr,rfl⟩:=List.mem_map.mp hx;have:=h r hr;exact zrb (by omega) (by omega) (by omega) (by omega)) (by rw[List.length_map];exact hl)
theorem zrh:Sh (.tuple [.str (Str.ofString "step")]) (8 *(89+2)+3) 2 :=
 (show Sh (.tuple [.str (Str.ofString "step")]) 9 1 from⟨by decide +kernel,by decide +kernel,by decide +kernel,by decide +kernel⟩).mono (by decide) (by decide)
theorem zug(B:Blt mg){T:Addr}(F:Fun K "law" "law" ja f fd)(C__law_cell_at:Cal P w K mg base 1 "_law_cell_at" ["_law_script", "_law_k"] (yf K jb))(C__law_pen_of:Cal P w K mg base 1 "_law_pen_of" ["_law_cell"] (yf K jn))(C__law_draw:Cal P w K mg base 2 "_law_draw" ["_law_pen", "_law_many"] (yf K xj))(C__law_road:Cal P w K mg base 3 "_law_road" ["_law_pen"] (yf K za8))(C__law_told:Cal P w K mg base 7 "_law_told" ["_law_way", "_law_road_here", "_law_thing"] (yf K kx))(C__law_order:Cal P w K mg base 3 "_law_order" ["_law_pen", "_law_many"] (yf K zai))(C__law_bent:Cal P w K mg base 4 "_law_bent" ["_law_pen", "_law_order_here"] (yf K zba))(C__law_is_order:Cal P w K mg base 2 "_law_is_order" ["_law_many", "_law_thing"] (yf K vx))(C__law_best_right:Cal P w K mg base 8 "_law_best_right" ["_law_pen", "_law_road_here"] (qp "best_order.<locals>.<lambda>" T (yf K qj))):FnOk P w K mg base CX0 9 f fd ["_law_script"] (qp "best_order.<locals>.<lambda>" T (yf K zc9)):=by
 refine F.dokT sc_law (λws Q h=>?_) (λA outer s H ws Q E hr hT h=>?_)
 ·obtain⟨ns,rfl,_⟩:=h;rfl
 obtain⟨ns,rfl,h63,q⟩:=h;refine⟨_,(zg (jf PassesOwn.never rfl (zco (yt wf (DE.dv (DF.de (xv (ze (yd C__law_cell_at hr rfl (yj 0 (xi zr ye xc))) zv)))) (DE.dv (DF.de (ztk 0 (vc zr) (vc zr)))))) (z0 (i:=1) sc_law.nd rfl (Or.inl rfl)) (zg (zp9 (i:=2) sc_law.nd rfl (Or.inr rfl) (zp5 C__law_pen_of hr rfl (yj 1 ye))) (zg (y2 (i:=3) sc_law.nd rfl (Or.inr rfl) (yd C__law_road hr rfl (yj 2 ye))) (zg (ww (y3 (znf hr) (DE.dv (yd C__law_draw hr rfl (yj 2 (xi zr ye xc)))) (DE.dv zr) (yn _)) (zq (y2 (i:=3) sc_law.nd rfl (Or.inr rfl) (wx ki rfl B.tupleT boot_tuple (zp (DE.dv (DF.de (vg rfl (N':=["_law_need", "_law_keep"]) (capt:=[]) (k:=2) (js:=[]) ⟨rfl,by decide,rfl,by decide,.nil,rfl,.nil,rfl,by decide⟩ (xz (zf 3)) (λ_ _ _ _=>(qg (n:=2) rfl (yk (z0 (i:=0) (show List.Nodup (["_law_need", "_law_keep"]:List Str) by decide +kernel) rfl (Or.inl rfl) (Or.inr rfl)) (yk (z0 (i:=1) (show List.Nodup (["_law_need", "_law_keep"]:List Str) by decide +kernel) rfl (Or.inl rfl) (Or.inr rfl)) vp)))) (λ_ _ _ _=>xg) (λ_ _ _ _=>(yw (ze (ya 0) (ze (yt zjr (zf 1) (DE.dv zr)) zv))))))) zw)))) yu) (zg (y2 (i:=4) sc_law.nd rfl (Or.inr rfl) (yd C__law_order hr rfl (yj 2 (xi (z5 vf rfl B.len PySem.boot_len (zp (zf 3) zw)) ye)))) (zg (jf PassesOwn.never rfl (zco (yt wf (DE.dv (DF.de (xv (ze (ya 4) (ze (zqg (zf 4)) zv))))) (DE.dv (DF.de (vg rfl (N':=["_law_turn", "_law_pen", "_law_order_here"]) (capt:=["_law_pen", "_law_order_here"]) (k:=1) (js:=[2,4]) ⟨rfl,by decide,rfl,by decide,(.cons rfl (.cons rfl .nil)),rfl,(.cons rfl (Or.inl rfl) rfl (Or.inl rfl) (.cons rfl (Or.inl rfl) rfl (Or.inl rfl) .nil)),rfl,by decide⟩ (DI.w (vt rfl B.range (ze zr zv xc))) (λ_ _ _ _=>(z0 (i:=0) (show List.Nodup (["_law_turn", "_law_pen", "_law_order_here"]:List Str) by decide +kernel) rfl (Or.inl rfl) (Or.inr rfl))) (λ_ _ _ _=>xg) (λ_ _ _ _=>(yd C__law_bent hr rfl (yj 1 (yj 2 ye))))))))) (z0 (i:=5) sc_law.nd rfl (Or.inl rfl)) (zg (y2 (i:=6) sc_law.nd rfl (Or.inl rfl) (yw (ze yy zv xc))) (zg (ww (v5 (DE.dv (yd C__law_is_order hr rfl (xi (z5 vf rfl B.len PySem.boot_len (zp (zf 3) zw)) (yj 5 ye))))) (zq (y2 (i:=6) sc_law.nd rfl (Or.inl rfl) (wx ki rfl B.tupleT boot_tuple (zp (DE.dv (DF.de (vg rfl (N':=["_law_number", "_law_road_here"]) (capt:=["_law_road_here"]) (k:=1) (js:=[3]) ⟨rfl,by decide,rfl,by decide,(.cons rfl .nil),rfl,(.cons rfl (Or.inl rfl) rfl (Or.inl rfl) .nil),rfl,by decide⟩ (xz (zf 5)) (λ_ _ _ _=>(z0 (i:=0) (show List.Nodup (["_law_number", "_law_road_here"]:List Str) by decide +kernel) rfl (Or.inl rfl) (Or.inr rfl))) (λ_ _ _ _=>xg) (λ_ _ _ _=>(wg (zf 1) (ya 0) (λ_ _=>rfl)))))) zw)))) yu) (zq (ww (y3 (zgp hr) (DE.dv (za0 hr rfl B.repr boot_repr (qw (DE.dn (yt zne (DE.dv (DF.de (xv (ze (yd C__law_told hr rfl (xi zr (yj 3 (yj 5 ye)) xc)) zv)))) (DE.dv zr))) zaz))) (DE.dv (za0 hr rfl B.repr boot_repr (qw (ztv (qw (zii 6) (qw (zii 6) zaz))) zaz zsz))) (yn _)) (zq (yc qb)) yu))))) (zq (ww (kh (v5 (DE.dv (zc5 C__law_best_right hT hr rfl (yj 2 (yj 3 ye)))))) (zq (yc qb)) yu)))))))) (zq (yc qb))),?_⟩
 walk_at "ds";refine⟨ns,0,rfl,by decide,λv=>?_⟩;obtain⟨ys,ey,_,hy⟩:=zcr PyData.int ns (some 1) (some 4);rw[ey,List.length_map];refine⟨by omega,?_⟩;walk_at "ds";refine zgw (ds:=(v::ys).map PyData.int) (λσ=>∃(u1 u2 u3 u4 u5 u6:Option W),σ = [some (.scr ns),u1,u2,u3,u4,u5,u6]) ⟨none,none,none,none,none,none,rfl⟩ ?_ ?_
 ·rintro d hd σ N ⟨u1,u2,u3,u4,u5,u6,rfl⟩ k;obtain⟨v,_,rfl⟩:=List.mem_map.mp hd;refine wa (λσ=>σ = [some (.scr ns),some (.val (.int v)),some .pen,u3,u4,u5,u6]) (λN hN=>?_) ?_
  ·walk_at "ds";refine⟨_,rfl,λa b c=>?_⟩;walk_at "ds";exact⟨⟨a,b,c,rfl⟩,hN _ rfl⟩
  rintro σ rfl;refine wa (λσ=>∃(rs:List (Int×Int)),OkR rs/\σ = [some (.scr ns),some (.val (.int v)),some .pen,some (.val (.tuple (rs.map pD))),u4,u5,u6]) (λN hN=>?_) ?_
  ·walk_at "ds";refine⟨rfl,λrs ok=>?_⟩;exact hN _ ⟨rs,ok,rfl⟩
  rintro σ ⟨rs,ok,rfl⟩;refine wa (λσ=>∃(rs:List (Int×Int)),OkR rs/\σ = [some (.scr ns),some (.val (.int v)),some .pen,some (.val (.tuple (rs.map pD))),u4,u5,u6]) (λN hN=>?_) ?_
  ·have h8:=ok.hi;walk_at "ds";refine j9 (by decide) (by decide) λz lz hz=>?_;walk_at "ds"
   by_cases c:z=1
   ·rw[if_pos c,List.length_map];refine⟨by omega,wd pD (λr=>pD (r.1,r.2 % 3)) (λr hr k hk=>?_) ?_⟩
    ·simp only[pD];walk_at "ds";exact⟨by decide,hk⟩
    ·refine hN _ ⟨rs.map λr=>(r.1,r.2 % 3),⟨λr hr=>?_,by rw[List.length_map];exact ok.lo,by rw[List.length_map];exact h8⟩,(by rw[List.map_map];rfl)⟩;obtain⟨r',hr',rfl⟩:=List.mem_map.mp hr;have:=ok.all r' hr';simp only;omega
   ·rw[if_neg c];exact hN _ ⟨rs,ok,rfl⟩
  rintro σ ⟨rs,ok,rfl⟩;have h8:=ok.hi;have h1:=ok.lo;refine wa (λσ=>∃o:List Nat,o.Perm (List.range rs.length)/\σ = [some (.scr ns),some (.val (.int v)),some .pen,some (.val (.tuple (rs.map pD))),some (.val (otD o)),u5,u6]) (λN hN=>?_) ?_
  ·walk_at "ds";refine⟨rs.length,by rw[List.length_map],h8,λo hp=>?_⟩;exact hN _ ⟨o,hp,rfl⟩
  rintro σ ⟨o,hp,rfl⟩;have ol:o.length=rs.length:=by rw[hp.length_eq,List.length_range]
  refine wa (λσ=>∃u5 u6:Option W,σ = [some (.scr ns),some (.val (.int v)),some .pen,some (.val (.tuple (rs.map pD))),some (.val (otD o)),u5,u6]) (λN hN=>?_) ?_
  ·unfold otD;walk_at "ds";refine⟨by decide,by decide,zcp (λy=>∀xs,y=.tuple xs->xs.length<64) (λd k hk=>?_) λzs hz hzs=>?_⟩
   ·walk_at "ds";exact⟨o,rfl,by omega,by omega,λi hi=>by have:=List.mem_range.mp (hp.mem_iff.mp hi);omega,λd hd=>hk d hd⟩
   ·have hall:∀y∈PyData.tuple (List.map nI o)::PyData.tuple (List.map nI o).reverse::zs,∀xs,y=.tuple xs->xs.length<64:=jz (λxs e=>by cases e;rw[List.length_map];omega) (jz (λxs e=>by cases e;rw[List.length_reverse,List.length_map];omega) hzs);refine⟨by rw[hz];decide,zgw (λσ=>∃u5 u6:Option W,σ = [some (.scr ns),some (.val (.int v)),some .pen,some (.val (.tuple (rs.map pD))),some (.val (otD o)),u5,u6]) ⟨_,_,rfl⟩ ?_ ?_⟩
    ·rintro y hy σ N2 ⟨u5,u6,rfl⟩ k2;have hx:=hall y hy;simp only[zao,List.set_cons_succ,List.set_cons_zero];refine wa (λσ=>σ = [some (.scr ns),some (.val (.int v)),some .pen,some (.val (.tuple (rs.map pD))),some (.val (otD o)),some (.val y),some (.val (.tuple [.str (Str.ofString "step")]))]) (λN hN=>?_) ?_
     ·walk_at "ds";exact hN _ rfl
     rintro σ rfl;refine wa (λσ=>∃due:D,(za9 rs.length y=false->due=.tuple [.str (Str.ofString "step")])/\(∀o',y=otD o'->o'.Perm (List.range rs.length)->due=.tuple ((pick rs o').map pD))/\σ = [some (.scr ns),some (.val (.int v)),some .pen,some (.val (.tuple (rs.map pD))),some (.val (otD o)),some (.val y),some (.val due)]) (λN hN=>?_) ?_
     ·walk_at "ds";refine⟨rs.length,y,by rw[List.length_map],h8,hx,?_⟩
      cases e:za9 rs.length y with
      |false=>
       walk_at "ds";exact hN _ ⟨_,λ_=>rfl,λo' eo hp'=>absurd (zjc hp') (by rw[<-eo,e];decide),rfl⟩
      |true=>
       obtain⟨o',rfl,hp'⟩:=zf2 e;have ol':o'.length=rs.length:=by rw[hp'.length_eq,List.length_range]
       unfold otD;walk_at "ds";refine⟨by rw[List.length_map];omega,wd nI (λi=>pD (rs.getD i (0,0))) (λi hi k hk=>?_) ?_⟩
       ·simp only[nI];walk_at "ds";exact⟨_,j5 (List.mem_range.mp (hp'.mem_iff.mp hi)),hk⟩
       ·refine hN _ ⟨.tuple ((pick rs o').map pD),λz=>absurd z (by rw[e];decide),λo2 eo _=>by rw[zks eo.symm],(by unfold pick otD;rw[List.map_map];rfl)⟩
     rintro σ ⟨due,d1,d2,rfl⟩;have sh:Sh due (8 *(89+2)+3) 2:=by
      cases e:za9 rs.length y with
      |false=>rw[d1 e];exact zrh
      |true=>
       obtain⟨o',eo,hp'⟩:=zf2 e;rw[d2 o' eo hp'];have pp:=pick_perm hp';exact zrg (λr hr=>ok.all r (pp.mem_iff.mp hr)) (by rw[pp.length_eq];exact h8)
     have sl:Sh (.list [due,due]) (2 *(8 *(89+2)+3+2)+3) 3:=Sh.lst (m:=2) (jz sh (jz sh zoa)) (Nat.le_refl 2);walk_at "ds";refine .inl ⟨rs,y,rfl,h8,hx,λe=>?_,λo' eo hp'=>?_⟩
     ·rw[<-d1 e];refine⟨by decide,by decide,by decide,sl.can,sl.rep (by decide) (by decide) (λb z=>by cases z) ⟨sh.can,sh.can,sl.rep (by decide) (by decide) (λb z=>by cases z) ?_⟩⟩;walk_at "ds";rw[if_neg (λz=>z trivial)];exact k2 _ ⟨_,_,rfl⟩
     ·rw[<-d2 o' eo hp'];refine⟨by decide,by decide,by decide,sl.can,sl.rep (by decide) (by decide) (λb z=>by cases z) ⟨sh.can,sh.can,sl.rep (by decide) (by decide) (λb z=>by cases z) ?_⟩⟩;walk_at "ds";rw[if_neg (λz=>z trivial)];exact k2 _ ⟨_,_,rfl⟩
    ·rintro σ ⟨u5,u6,rfl⟩;exact hN _ ⟨_,_,rfl⟩
  rintro σ ⟨u5,u6,rfl⟩;walk_at "ds";refine⟨rs,rfl,ok,?_⟩;walk_at "ds";exact k _ ⟨_,_,_,_,_,_,rfl⟩
 ·rintro σ ⟨u1,u2,u3,u4,u5,u6,rfl⟩;walk_at "ds";exact q
end
theorem zwo{us:List Value}(h:us.length=0):us = []:=List.eq_nil_of_length_eq_zero h
theorem zbb{us:List Value}(h:us.length=1):∃a0,us = [a0]:=by
 cases us with
 |nil=>cases h
 |cons a t=>
  obtain rfl:=zwo (Nat.succ.inj h);exact⟨a,rfl⟩
theorem zbc{us:List Value}(h:us.length=2):∃a0 a1,us = [a0,a1]:=by
 cases us with
 |nil=>cases h
 |cons a t=>
  obtain⟨a1,rfl⟩:=zbb (Nat.succ.inj h);exact⟨a,a1,rfl⟩
theorem zvw{us:List Value}(h:us.length=3):∃a0 a1 a2,us = [a0,a1,a2]:=by
 cases us with
 |nil=>cases h
 |cons a t=>
  obtain⟨a1,a2,rfl⟩:=zbc (Nat.succ.inj h);exact⟨a,a1,a2,rfl⟩
theorem zuh{l:PySem.W.OpenLaw}{w:World}{K:PySem.W.Frag}{h:Heap}{mg:Str->Option Value}{fa f0 f1 f2 f3 f4 f5 f6 f7 f8 f9 f10 f11 f12 f13 f14 f15 f16 f17 f18 f19 f20 f21 f22 f23 f24 f25 f26 f27:Addr}(X:K.In h)(G:h.Ns mainGlobals mg)(hfa:mg "law" = some (.ref fa))
  {od0 an0:Option Addr}{sl0:Array (Option Value)}{oc0 kV0 dc0 pm0 cd0 ct0:Value}
  (a0:PySem.W.nsIn K mainGlobals "is_whole" = some (some (.ref f0))) (l0:K.lookup f0=some ⟨oc0,od0,.func (PySem.W.fnOf "is_whole" "is_whole" (zm wl) (zh wl) (zc wl) .none kV0 dc0 pm0 an0 cd0 ct0),sl0⟩) (c0:PySem.W.codeIn K cd0 "is_whole" = true) (k0:PySem.W.keepIn K (.ref f0)=true)
  {od1 an1:Option Addr}{sl1:Array (Option Value)}{oc1 kV1 dc1 pm1 cd1 ct1:Value}
  (a1:PySem.W.nsIn K mainGlobals "times_of" = some (some (.ref f1))) (l1:K.lookup f1=some ⟨oc1,od1,.func (PySem.W.fnOf "times_of" "times_of" (zm wm) (zh wm) (zc wm) .none kV1 dc1 pm1 an1 cd1 ct1),sl1⟩) (c1:PySem.W.codeIn K cd1 "times_of" = true) (k1:PySem.W.keepIn K (.ref f1)=true)
  {od2 an2:Option Addr}{sl2:Array (Option Value)}{oc2 kV2 dc2 pm2 cd2 ct2:Value}
  (a2:PySem.W.nsIn K mainGlobals "turned_at" = some (some (.ref f2))) (l2:K.lookup f2=some ⟨oc2,od2,.func (PySem.W.fnOf "turned_at" "turned_at" (zm x3) (zh x3) (zc x3) .none kV2 dc2 pm2 an2 cd2 ct2),sl2⟩) (c2:PySem.W.codeIn K cd2 "turned_at" = true) (k2:PySem.W.keepIn K (.ref f2)=true)
  {od3 an3:Option Addr}{sl3:Array (Option Value)}{oc3 kV3 dc3 pm3 cd3 ct3:Value}
  (a3:PySem.W.nsIn K mainGlobals "needs_of" = some (some (.ref f3))) (l3:K.lookup f3=some ⟨oc3,od3,.func (PySem.W.fnOf "needs_of" "needs_of" (zm wn) (zh wn) (zc wn) .none kV3 dc3 pm3 an3 cd3 ct3),sl3⟩) (c3:PySem.W.codeIn K cd3 "needs_of" = true) (k3:PySem.W.keepIn K (.ref f3)=true)
  {od4 an4:Option Addr}{sl4:Array (Option Value)}{oc4 kV4 dc4 pm4 cd4 ct4:Value}
  (a4:PySem.W.nsIn K mainGlobals "least_time" = some (some (.ref f4))) (l4:K.lookup f4=some ⟨oc4,od4,.func (PySem.W.fnOf "least_time" "least_time" (zm xk) (zh xk) (zc xk) .none kV4 dc4 pm4 an4 cd4 ct4),sl4⟩) (c4:PySem.W.codeIn K cd4 "least_time" = true) (k4:PySem.W.keepIn K (.ref f4)=true)
  {od5 an5:Option Addr}{sl5:Array (Option Value)}{oc5 kV5 dc5 pm5 cd5 ct5:Value}
  (a5:PySem.W.nsIn K mainGlobals "vain_of" = some (some (.ref f5))) (l5:K.lookup f5=some ⟨oc5,od5,.func (PySem.W.fnOf "vain_of" "vain_of" (zm wy) (zh wy) (zc wy) .none kV5 dc5 pm5 an5 cd5 ct5),sl5⟩) (c5:PySem.W.codeIn K cd5 "vain_of" = true) (k5:PySem.W.keepIn K (.ref f5)=true)
  {od6 an6:Option Addr}{sl6:Array (Option Value)}{oc6 kV6 dc6 pm6 cd6 ct6:Value}
  (a6:PySem.W.nsIn K mainGlobals "order_good" = some (some (.ref f6))) (l6:K.lookup f6=some ⟨oc6,od6,.func (PySem.W.fnOf "order_good" "order_good" (zm xl) (zh xl) (zc xl) .none kV6 dc6 pm6 an6 cd6 ct6),sl6⟩) (c6:PySem.W.codeIn K cd6 "order_good" = true) (k6:PySem.W.keepIn K (.ref f6)=true)
  {od7 an7:Option Addr}{sl7:Array (Option Value)}{oc7 kV7 dc7 pm7 cd7 ct7:Value}
  (a7:PySem.W.nsIn K mainGlobals "ordered" = some (some (.ref f7))) (l7:K.lookup f7=some ⟨oc7,od7,.func (PySem.W.fnOf "ordered" "ordered" (zm wz) (zh wz) (zc wz) .none kV7 dc7 pm7 an7 cd7 ct7),sl7⟩) (c7:PySem.W.codeIn K cd7 "ordered" = true) (k7:PySem.W.keepIn K (.ref f7)=true)
  {od8 an8:Option Addr}{sl8:Array (Option Value)}{oc8 kV8 dc8 pm8 cd8 ct8:Value}
  (a8:PySem.W.nsIn K mainGlobals "best_order" = some (some (.ref f8))) (l8:K.lookup f8=some ⟨oc8,od8,.func (PySem.W.fnOf "best_order" "best_order" (zm xm) (zh xm) (zc xm) .none kV8 dc8 pm8 an8 cd8 ct8),sl8⟩) (c8:PySem.W.codeIn K cd8 "best_order" = true) (k8:PySem.W.keepIn K (.ref f8)=true)
  {od9 an9:Option Addr}{sl9:Array (Option Value)}{oc9 kV9 dc9 pm9 cd9 ct9:Value}
  (a9:PySem.W.nsIn K mainGlobals "all_orders" = some (some (.ref f9))) (l9:K.lookup f9=some ⟨oc9,od9,.func (PySem.W.fnOf "all_orders" "all_orders" (zm xn) (zh xn) (zc xn) .none kV9 dc9 pm9 an9 cd9 ct9),sl9⟩) (c9:PySem.W.codeIn K cd9 "all_orders" = true) (k9:PySem.W.keepIn K (.ref f9)=true)
  {od10 an10:Option Addr}{sl10:Array (Option Value)}{oc10 kV10 dc10 pm10 cd10 ct10:Value}
  (a10:PySem.W.nsIn K mainGlobals "least_vain" = some (some (.ref f10))) (l10:K.lookup f10=some ⟨oc10,od10,.func (PySem.W.fnOf "least_vain" "least_vain" (zm xp) (zh xp) (zc xp) .none kV10 dc10 pm10 an10 cd10 ct10),sl10⟩) (c10:PySem.W.codeIn K cd10 "least_vain" = true) (k10:PySem.W.keepIn K (.ref f10)=true)
  {od11 an11:Option Addr}{sl11:Array (Option Value)}{oc11 kV11 dc11 pm11 cd11 ct11:Value}
  (a11:PySem.W.nsIn K mainGlobals "_law_cell_at" = some (some (.ref f11))) (l11:K.lookup f11=some ⟨oc11,od11,.func (PySem.W.fnOf "_law_cell_at" "_law_cell_at" (zm yz) (zh yz) (zc yz) .none kV11 dc11 pm11 an11 cd11 ct11),sl11⟩) (c11:PySem.W.codeIn K cd11 "_law_cell_at" = true) (k11:PySem.W.keepIn K (.ref f11)=true)
  {od12 an12:Option Addr}{sl12:Array (Option Value)}{oc12 kV12 dc12 pm12 cd12 ct12:Value}
  (a12:PySem.W.nsIn K mainGlobals "_law_next" = some (some (.ref f12))) (l12:K.lookup f12=some ⟨oc12,od12,.func (PySem.W.fnOf "_law_next" "_law_next" (zm x4) (zh x4) (zc x4) .none kV12 dc12 pm12 an12 cd12 ct12),sl12⟩) (c12:PySem.W.codeIn K cd12 "_law_next" = true) (k12:PySem.W.keepIn K (.ref f12)=true)
  {od13 an13:Option Addr}{sl13:Array (Option Value)}{oc13 kV13 dc13 pm13 cd13 ct13:Value}
  (a13:PySem.W.nsIn K mainGlobals "_law_pen_of" = some (some (.ref f13))) (l13:K.lookup f13=some ⟨oc13,od13,.func (PySem.W.fnOf "_law_pen_of" "_law_pen_of" (zm y4) (zh y4) (zc y4) .none kV13 dc13 pm13 an13 cd13 ct13),sl13⟩) (c13:PySem.W.codeIn K cd13 "_law_pen_of" = true) (k13:PySem.W.keepIn K (.ref f13)=true)
  {od14 an14:Option Addr}{sl14:Array (Option Value)}{oc14 kV14 dc14 pm14 cd14 ct14:Value}
  (a14:PySem.W.nsIn K mainGlobals "_law_draw" = some (some (.ref f14))) (l14:K.lookup f14=some ⟨oc14,od14,.func (PySem.W.fnOf "_law_draw" "_law_draw" (zm x5) (zh x5) (zc x5) .none kV14 dc14 pm14 an14 cd14 ct14),sl14⟩) (c14:PySem.W.codeIn K cd14 "_law_draw" = true) (k14:PySem.W.keepIn K (.ref f14)=true)
  {od15 an15:Option Addr}{sl15:Array (Option Value)}{oc15 kV15 dc15 pm15 cd15 ct15:Value}
  (a15:PySem.W.nsIn K mainGlobals "_law_road" = some (some (.ref f15))) (l15:K.lookup f15=some ⟨oc15,od15,.func (PySem.W.fnOf "_law_road" "_law_road" (zm x6) (zh x6) (zc x6) .none kV15 dc15 pm15 an15 cd15 ct15),sl15⟩) (c15:PySem.W.codeIn K cd15 "_law_road" = true) (k15:PySem.W.keepIn K (.ref f15)=true)
  {od16 an16:Option Addr}{sl16:Array (Option Value)}{oc16 kV16 dc16 pm16 cd16 ct16:Value}
  (a16:PySem.W.nsIn K mainGlobals "_law_odd" = some (some (.ref f16))) (l16:K.lookup f16=some ⟨oc16,od16,.func (PySem.W.fnOf "_law_odd" "_law_odd" (zm wo) (zh wo) (zc wo) .none kV16 dc16 pm16 an16 cd16 ct16),sl16⟩) (c16:PySem.W.codeIn K cd16 "_law_odd" = true) (k16:PySem.W.keepIn K (.ref f16)=true)
  {od17 an17:Option Addr}{sl17:Array (Option Value)}{oc17 kV17 dc17 pm17 cd17 ct17:Value}
  (a17:PySem.W.nsIn K mainGlobals "_law_refusal" = some (some (.ref f17))) (l17:K.lookup f17=some ⟨oc17,od17,.func (PySem.W.fnOf "_law_refusal" "_law_refusal" (zm y1) (zh y1) (zc y1) .none kV17 dc17 pm17 an17 cd17 ct17),sl17⟩) (c17:PySem.W.codeIn K cd17 "_law_refusal" = true) (k17:PySem.W.keepIn K (.ref f17)=true)
  {od18 an18:Option Addr}{sl18:Array (Option Value)}{oc18 kV18 dc18 pm18 cd18 ct18:Value}
  (a18:PySem.W.nsIn K mainGlobals "_law_whole" = some (some (.ref f18))) (l18:K.lookup f18=some ⟨oc18,od18,.func (PySem.W.fnOf "_law_whole" "_law_whole" (zm xq) (zh xq) (zc xq) .none kV18 dc18 pm18 an18 cd18 ct18),sl18⟩) (c18:PySem.W.codeIn K cd18 "_law_whole" = true) (k18:PySem.W.keepIn K (.ref f18)=true)
  {od19 an19:Option Addr}{sl19:Array (Option Value)}{oc19 kV19 dc19 pm19 cd19 ct19:Value}
  (a19:PySem.W.nsIn K mainGlobals "_law_orders" = some (some (.ref f19))) (l19:K.lookup f19=some ⟨oc19,od19,.func (PySem.W.fnOf "_law_orders" "_law_orders" (zm y6) (zh y6) (zc y6) .none kV19 dc19 pm19 an19 cd19 ct19),sl19⟩) (c19:PySem.W.codeIn K cd19 "_law_orders" = true) (k19:PySem.W.keepIn K (.ref f19)=true)
  {od20 an20:Option Addr}{sl20:Array (Option Value)}{oc20 kV20 dc20 pm20 cd20 ct20:Value}
  (a20:PySem.W.nsIn K mainGlobals "_law_told" = some (some (.ref f20))) (l20:K.lookup f20=some ⟨oc20,od20,.func (PySem.W.fnOf "_law_told" "_law_told" (zm x8) (zh x8) (zc x8) .none kV20 dc20 pm20 an20 cd20 ct20),sl20⟩) (c20:PySem.W.codeIn K cd20 "_law_told" = true) (k20:PySem.W.keepIn K (.ref f20)=true)
  {od21 an21:Option Addr}{sl21:Array (Option Value)}{oc21 kV21 dc21 pm21 cd21 ct21:Value}
  (a21:PySem.W.nsIn K mainGlobals "_law_order" = some (some (.ref f21))) (l21:K.lookup f21=some ⟨oc21,od21,.func (PySem.W.fnOf "_law_order" "_law_order" (zm xr) (zh xr) (zc xr) .none kV21 dc21 pm21 an21 cd21 ct21),sl21⟩) (c21:PySem.W.codeIn K cd21 "_law_order" = true) (k21:PySem.W.keepIn K (.ref f21)=true)
  {od22 an22:Option Addr}{sl22:Array (Option Value)}{oc22 kV22 dc22 pm22 cd22 ct22:Value}
  (a22:PySem.W.nsIn K mainGlobals "_law_bent" = some (some (.ref f22))) (l22:K.lookup f22=some ⟨oc22,od22,.func (PySem.W.fnOf "_law_bent" "_law_bent" (zm x9) (zh x9) (zc x9) .none kV22 dc22 pm22 an22 cd22 ct22),sl22⟩) (c22:PySem.W.codeIn K cd22 "_law_bent" = true) (k22:PySem.W.keepIn K (.ref f22)=true)
  {od23 an23:Option Addr}{sl23:Array (Option Value)}{oc23 kV23 dc23 pm23 cd23 ct23:Value}
  (a23:PySem.W.nsIn K mainGlobals "_law_is_order" = some (some (.ref f23))) (l23:K.lookup f23=some ⟨oc23,od23,.func (PySem.W.fnOf "_law_is_order" "_law_is_order" (zm yq) (zh yq) (zc yq) .none kV23 dc23 pm23 an23 cd23 ct23),sl23⟩) (c23:PySem.W.codeIn K cd23 "_law_is_order" = true) (k23:PySem.W.keepIn K (.ref f23)=true)
  {od24 an24:Option Addr}{sl24:Array (Option Value)}{oc24 kV24 dc24 pm24 cd24 ct24:Value}
  (a24:PySem.W.nsIn K mainGlobals "_law_least" = some (some (.ref f24))) (l24:K.lookup f24=some ⟨oc24,od24,.func (PySem.W.fnOf "_law_least" "_law_least" (zm xt) (zh xt) (zc xt) .none kV24 dc24 pm24 an24 cd24 ct24),sl24⟩) (c24:PySem.W.codeIn K cd24 "_law_least" = true) (k24:PySem.W.keepIn K (.ref f24)=true)
  {od25 an25:Option Addr}{sl25:Array (Option Value)}{oc25 kV25 dc25 pm25 cd25 ct25:Value}
  (a25:PySem.W.nsIn K mainGlobals "_law_worked" = some (some (.ref f25))) (l25:K.lookup f25=some ⟨oc25,od25,.func (PySem.W.fnOf "_law_worked" "_law_worked" (zm y8) (zh y8) (zc y8) .none kV25 dc25 pm25 an25 cd25 ct25),sl25⟩) (c25:PySem.W.codeIn K cd25 "_law_worked" = true) (k25:PySem.W.keepIn K (.ref f25)=true)
  {od26 an26:Option Addr}{sl26:Array (Option Value)}{oc26 kV26 dc26 pm26 cd26 ct26:Value}
  (a26:PySem.W.nsIn K mainGlobals "_law_best_right" = some (some (.ref f26))) (l26:K.lookup f26=some ⟨oc26,od26,.func (PySem.W.fnOf "_law_best_right" "_law_best_right" (zm yi) (zh yi) (zc yi) .none kV26 dc26 pm26 an26 cd26 ct26),sl26⟩) (c26:PySem.W.codeIn K cd26 "_law_best_right" = true) (k26:PySem.W.keepIn K (.ref f26)=true)
  {od27 an27:Option Addr}{sl27:Array (Option Value)}{oc27 kV27 dc27 pm27 cd27 ct27:Value}
  (a27:PySem.W.nsIn K mainGlobals "law" = some (some (.ref f27))) (l27:K.lookup f27=some ⟨oc27,od27,.func (PySem.W.fnOf "law" "law" (zm ja) (zh ja) (zc ja) .none kV27 dc27 pm27 an27 cd27 ct27),sl27⟩) (c27:PySem.W.codeIn K cd27 "law" = true) (k27:PySem.W.keepIn K (.ref f27)=true)
  (z_len:PySem.W.nsIn K mainGlobals "len" = some none)
  (z_range:PySem.W.nsIn K mainGlobals "range" = some none)
  (z_enumerate:PySem.W.nsIn K mainGlobals "enumerate" = some none)
  (z_sum:PySem.W.nsIn K mainGlobals "sum" = some none)
  (z_min:PySem.W.nsIn K mainGlobals "min" = some none)
  (z_max:PySem.W.nsIn K mainGlobals "max" = some none)
  (z_repr:PySem.W.nsIn K mainGlobals "repr" = some none)
  (z_isinstance:PySem.W.nsIn K mainGlobals "isinstance" = some none)
  (z_all:PySem.W.nsIn K mainGlobals "all" = some none)
  (z_sorted:PySem.W.nsIn K mainGlobals "sorted" = some none)
  (z_tupleT:PySem.W.nsIn K mainGlobals "tuple" = some none)
  (z_intT:PySem.W.nsIn K mainGlobals "int" = some none)
  (z_listT:PySem.W.nsIn K mainGlobals "list" = some none)
  (z_strT:PySem.W.nsIn K mainGlobals "str" = some none)
  (z_boolT:PySem.W.nsIn K mainGlobals "bool" = some none)
  (z_ValueError:PySem.W.nsIn K mainGlobals "ValueError" = some none)
  (z_LookupError:PySem.W.nsIn K mainGlobals "LookupError" = some none)
  (z_TypeError:PySem.W.nsIn K mainGlobals "TypeError" = some none)
  (z_ArithmeticError:PySem.W.nsIn K mainGlobals "ArithmeticError" = some none)
  (z_RuntimeError:PySem.W.nsIn K mainGlobals "RuntimeError" = some none)
  {t_MOST_ORDERED:Tok} (y_MOST_ORDERED:PySem.W.nsIn K mainGlobals "MOST_ORDERED" = some (some (.int 6 t_MOST_ORDERED)))
  {c_NoStep:Addr} (xa_NoStep:PySem.W.nsIn K mainGlobals "NoStep" = some (some (.ref c_NoStep)))
  {c_TooGreat:Addr} (xa_TooGreat:PySem.W.nsIn K mainGlobals "TooGreat" = some (some (.ref c_TooGreat)))
  {c_KnockError:Addr} (xa_KnockError:PySem.W.nsIn K mainGlobals "KnockError" = some (some (.ref c_KnockError)))
  {c_NoBeat:Addr} (xa_NoBeat:PySem.W.nsIn K mainGlobals "NoBeat" = some (some (.ref c_NoBeat)))
  {c_NoNumber:Addr} (xa_NoNumber:PySem.W.nsIn K mainGlobals "NoNumber" = some (some (.ref c_NoNumber)))
  {c_NoLine:Addr} (xa_NoLine:PySem.W.nsIn K mainGlobals "NoLine" = some (some (.ref c_NoLine)))
  {c_NoStory:Addr} (xa_NoStory:PySem.W.nsIn K mainGlobals "NoStory" = some (some (.ref c_NoStory)))
  {c_NoText:Addr} (xa_NoText:PySem.W.nsIn K mainGlobals "NoText" = some (some (.ref c_NoText)))
  (xd_NoStep:PySem.W.hasDictIn K c_NoStep=true)
  (xt_NoStep:PySem.W.typeIn K (.ref c_NoStep)=some (.type "type"))
  (xd_TooGreat:PySem.W.hasDictIn K c_TooGreat=true)
  (xt_TooGreat:PySem.W.typeIn K (.ref c_TooGreat)=some (.type "type"))
  (xd_KnockError:PySem.W.hasDictIn K c_KnockError=true)
  (xt_KnockError:PySem.W.typeIn K (.ref c_KnockError)=some (.type "type"))
  (xd_NoBeat:PySem.W.hasDictIn K c_NoBeat=true)
  (xt_NoBeat:PySem.W.typeIn K (.ref c_NoBeat)=some (.type "type"))
  (xd_NoNumber:PySem.W.hasDictIn K c_NoNumber=true)
  (xt_NoNumber:PySem.W.typeIn K (.ref c_NoNumber)=some (.type "type"))
  (xd_NoLine:PySem.W.hasDictIn K c_NoLine=true)
  (xt_NoLine:PySem.W.typeIn K (.ref c_NoLine)=some (.type "type"))
  (xd_NoStory:PySem.W.hasDictIn K c_NoStory=true)
  (xt_NoStory:PySem.W.typeIn K (.ref c_NoStory)=some (.type "type"))
  (xd_NoText:PySem.W.hasDictIn K c_NoText=true)
  (xt_NoText:PySem.W.typeIn K (.ref c_NoText)=some (.type "type"))
  (xsp:PySem.W.specialIn K (.builtin "object.__class__") "__get__" = some (some (.builtin "getset_descriptor.__get__")))
  (xtk:PySem.W.takesIn K (.builtin "object.__class__")=some true)
  (xkb:PySem.W.subIn K (.ref c_KnockError) (.type "BaseException")=some true)
  (xe_NoStep:PySem.W.excIn K c_NoStep [.type "ValueError",.type "Exception",.type "BaseException",.type "object"] "ValueError.__new__" = true)
  (xg_NoStep:PySem.W.findIn K (.ref c_NoStep) "__getattribute__" = some (some (.builtin "BaseException.__getattribute__")))
  (xh_NoStep:PySem.W.findIn K (.ref c_NoStep) "__getattr__" = some none)
  (xo_NoStep:PySem.W.mroIn K c_NoStep (.type "BaseException")=some true)
  (xf_NoStep:PySem.W.findIn K (.ref c_NoStep) "__class__" = some (some (.builtin "object.__class__")))
  (xm_NoStep:PySem.W.mroIn K c_NoStep (.type "object")=some true)
  (xs_NoStep_TooGreat:PySem.W.subIn K (.ref c_NoStep) (.ref c_TooGreat)=some false)
  (xn_NoStep_TooGreat:c_NoStep≠c_TooGreat)
  (xs_NoStep_KnockError:PySem.W.subIn K (.ref c_NoStep) (.ref c_KnockError)=some true)
  (xs_NoStep_NoBeat:PySem.W.subIn K (.ref c_NoStep) (.ref c_NoBeat)=some false)
  (xn_NoStep_NoBeat:c_NoStep≠c_NoBeat)
  (xs_NoStep_NoNumber:PySem.W.subIn K (.ref c_NoStep) (.ref c_NoNumber)=some false)
  (xn_NoStep_NoNumber:c_NoStep≠c_NoNumber)
  (xs_NoStep_NoLine:PySem.W.subIn K (.ref c_NoStep) (.ref c_NoLine)=some false)
  (xn_NoStep_NoLine:c_NoStep≠c_NoLine)
  (xs_NoStep_NoStory:PySem.W.subIn K (.ref c_NoStep) (.ref c_NoStory)=some false)
  (xn_NoStep_NoStory:c_NoStep≠c_NoStory)
  (xs_NoStep_NoText:PySem.W.subIn K (.ref c_NoStep) (.ref c_NoText)=some false)
  (xn_NoStep_NoText:c_NoStep≠c_NoText)
  (xb_NoStep_ValueError:PySem.W.subIn K (.ref c_NoStep) (.type "ValueError")=some true)
  (xb_NoStep_LookupError:PySem.W.subIn K (.ref c_NoStep) (.type "LookupError")=some false)
  (xb_NoStep_TypeError:PySem.W.subIn K (.ref c_NoStep) (.type "TypeError")=some false)
  (xb_NoStep_ArithmeticError:PySem.W.subIn K (.ref c_NoStep) (.type "ArithmeticError")=some false)
  (xb_NoStep_RuntimeError:PySem.W.subIn K (.ref c_NoStep) (.type "RuntimeError")=some false)
  {i_TooGreat:Addr} (xj_TooGreat:PySem.W.findIn K (.ref c_TooGreat) "__init__" = some (some (.ref i_TooGreat)))
  (xe_TooGreat:zbr K c_TooGreat [.type "ValueError",.type "Exception",.type "BaseException",.type "object"] "ValueError.__new__" i_TooGreat=true)
  (xu_TooGreat:PySem.W.findIn K (.ref c_TooGreat) "__setattr__" = some (some (.builtin "object.__setattr__")))
  (xv_TooGreat_many:PySem.W.findIn K (.ref c_TooGreat) "many" = some none)
  (xv_TooGreat_most:PySem.W.findIn K (.ref c_TooGreat) "most" = some none)
  {xod_TooGreat xan_TooGreat:Option Addr}{xsl_TooGreat:Array (Option Value)}{xkV_TooGreat xdc_TooGreat xpm_TooGreat xcd_TooGreat xct_TooGreat:Value} (xl_TooGreat:K.lookup i_TooGreat=some ⟨.type "function",xod_TooGreat,.func (PySem.W.fnOf "__init__" "TooGreat.__init__" (zm (qo wj 0)) (zh (qo wj 0)) (zc (qo wj 0)) .none xkV_TooGreat xdc_TooGreat xpm_TooGreat xan_TooGreat xcd_TooGreat xct_TooGreat),xsl_TooGreat⟩)
  (xw_TooGreat:PySem.W.codeIn K xcd_TooGreat "TooGreat.__init__" = true)
  (xy_TooGreat:PySem.W.keepIn K (.ref i_TooGreat)=true)
  (xg_TooGreat:PySem.W.findIn K (.ref c_TooGreat) "__getattribute__" = some (some (.builtin "BaseException.__getattribute__")))
  (xh_TooGreat:PySem.W.findIn K (.ref c_TooGreat) "__getattr__" = some none)
  (xo_TooGreat:PySem.W.mroIn K c_TooGreat (.type "BaseException")=some true)
  (xf_TooGreat:PySem.W.findIn K (.ref c_TooGreat) "__class__" = some (some (.builtin "object.__class__")))
  (xm_TooGreat:PySem.W.mroIn K c_TooGreat (.type "object")=some true)
  (xs_TooGreat_NoStep:PySem.W.subIn K (.ref c_TooGreat) (.ref c_NoStep)=some false)
  (xn_TooGreat_NoStep:c_TooGreat≠c_NoStep)
  (xs_TooGreat_KnockError:PySem.W.subIn K (.ref c_TooGreat) (.ref c_KnockError)=some true)
  (xs_TooGreat_NoBeat:PySem.W.subIn K (.ref c_TooGreat) (.ref c_NoBeat)=some false)
  (xn_TooGreat_NoBeat:c_TooGreat≠c_NoBeat)
  (xs_TooGreat_NoNumber:PySem.W.subIn K (.ref c_TooGreat) (.ref c_NoNumber)=some false)
  (xn_TooGreat_NoNumber:c_TooGreat≠c_NoNumber)
  (xs_TooGreat_NoLine:PySem.W.subIn K (.ref c_TooGreat) (.ref c_NoLine)=some false)
  (xn_TooGreat_NoLine:c_TooGreat≠c_NoLine)
  (xs_TooGreat_NoStory:PySem.W.subIn K (.ref c_TooGreat) (.ref c_NoStory)=some false)
  (xn_TooGreat_NoStory:c_TooGreat≠c_NoStory)
  (xs_TooGreat_NoText:PySem.W.subIn K (.ref c_TooGreat) (.ref c_NoText)=some false)
  (xn_TooGreat_NoText:c_TooGreat≠c_NoText)
  (xb_TooGreat_ValueError:PySem.W.subIn K (.ref c_TooGreat) (.type "ValueError")=some true)
  (xb_TooGreat_LookupError:PySem.W.subIn K (.ref c_TooGreat) (.type "LookupError")=some false)
  (xb_TooGreat_TypeError:PySem.W.subIn K (.ref c_TooGreat) (.type "TypeError")=some false)
  (xb_TooGreat_ArithmeticError:PySem.W.subIn K (.ref c_TooGreat) (.type "ArithmeticError")=some false)
  (xb_TooGreat_RuntimeError:PySem.W.subIn K (.ref c_TooGreat) (.type "RuntimeError")=some false)
  {c T:Addr} (hcd:cd8=.ref c):∃fd:FuncData,(∀(s:Shared) (v:Value),BindsTo s fd ⟨[v],[]⟩ [("_law_script",v)])/\∀base:Heap,K.In base->base.Ns mainGlobals mg->jk mg base->PySem.W.CodeHd base c T->FnOk l.prog w K mg base CX0 9 fa fd ["_law_script"] (qp "best_order.<locals>.<lambda>" T (yf K zc9)):=by
 have e:=hfa.symm.trans (PySem.W.mg_of X G a27)
 cases e;have B:Blt mg:=⟨PySem.W.mg_none_of X G z_len,PySem.W.mg_none_of X G z_range,PySem.W.mg_none_of X G z_enumerate,PySem.W.mg_none_of X G z_sum,PySem.W.mg_none_of X G z_min,PySem.W.mg_none_of X G z_max,PySem.W.mg_none_of X G z_repr,PySem.W.mg_none_of X G z_isinstance,PySem.W.mg_none_of X G z_all,PySem.W.mg_none_of X G z_sorted,PySem.W.mg_none_of X G z_tupleT,PySem.W.mg_none_of X G z_intT,PySem.W.mg_none_of X G z_listT,PySem.W.mg_none_of X G z_strT,PySem.W.mg_none_of X G z_boolT,PySem.W.mg_none_of X G z_ValueError,PySem.W.mg_none_of X G z_LookupError,PySem.W.mg_none_of X G z_TypeError,PySem.W.mg_none_of X G z_ArithmeticError,PySem.W.mg_none_of X G z_RuntimeError⟩
 have G_MOST_ORDERED:=PySem.W.mg_of X G y_MOST_ORDERED;have xi_NoStep:XIs K c_NoStep:=⟨xg_NoStep,xh_NoStep,xo_NoStep,xd_NoStep,xf_NoStep,xsp,xtk,xm_NoStep⟩
 have xi_TooGreat:XIs K c_TooGreat:=⟨xg_TooGreat,xh_TooGreat,xo_TooGreat,xd_TooGreat,xf_TooGreat,xsp,xtk,xm_TooGreat⟩
 have XF:Xf K mg:=⟨⟨_,PySem.W.mg_of X G xa_NoStep,xa_NoStep,xe_NoStep⟩,⟨_,PySem.W.mg_of X G xa_KnockError,(yv (zkd xa_NoStep ⟨xh xd_KnockError xt_KnockError xs_NoStep_KnockError,xkb⟩) (yv (zkd xa_TooGreat ⟨xh xd_KnockError xt_KnockError xs_TooGreat_KnockError,xkb⟩) vv))⟩,((yv (zkd xa_TooGreat ⟨xi_TooGreat,xv_TooGreat_many⟩) vv)),((yv (zkd xa_TooGreat ⟨xi_TooGreat,xv_TooGreat_most⟩) vv)),⟨_,PySem.W.mg_of X G xa_NoBeat,kl (c:=λ_=>True) km (yv (wt (v:=false) xa_NoStep (by decide +kernel) ⟨xi_NoStep,(xw xn_NoStep_NoBeat (xh xd_NoBeat xt_NoBeat xs_NoStep_NoBeat))⟩) (yv (wt (v:=false) xa_TooGreat (by decide +kernel) ⟨xi_TooGreat,(xw xn_TooGreat_NoBeat (xh xd_NoBeat xt_NoBeat xs_TooGreat_NoBeat))⟩) vv))⟩,⟨_,PySem.W.mg_of X G xa_NoStep,kl (c:=λ_=>True) km (yv (wt (v:=true) xa_NoStep (by decide +kernel) ⟨xi_NoStep,zby⟩) (yv (wt (v:=false) xa_TooGreat (by decide +kernel) ⟨xi_TooGreat,(xw xn_TooGreat_NoStep (xh xd_NoStep xt_NoStep xs_TooGreat_NoStep))⟩) vv))⟩,⟨_,PySem.W.mg_of X G xa_NoNumber,kl (c:=λ_=>True) km (yv (wt (v:=false) xa_NoStep (by decide +kernel) ⟨xi_NoStep,(xw xn_NoStep_NoNumber (xh xd_NoNumber xt_NoNumber xs_NoStep_NoNumber))⟩) (yv (wt (v:=false) xa_TooGreat (by decide +kernel) ⟨xi_TooGreat,(xw xn_TooGreat_NoNumber (xh xd_NoNumber xt_NoNumber xs_TooGreat_NoNumber))⟩) vv))⟩,⟨_,PySem.W.mg_of X G xa_NoLine,kl (c:=λ_=>True) km (yv (wt (v:=false) xa_NoStep (by decide +kernel) ⟨xi_NoStep,(xw xn_NoStep_NoLine (xh xd_NoLine xt_NoLine xs_NoStep_NoLine))⟩) (yv (wt (v:=false) xa_TooGreat (by decide +kernel) ⟨xi_TooGreat,(xw xn_TooGreat_NoLine (xh xd_NoLine xt_NoLine xs_TooGreat_NoLine))⟩) vv))⟩,⟨_,PySem.W.mg_of X G xa_NoStory,kl (c:=λ_=>True) km (yv (wt (v:=false) xa_NoStep (by decide +kernel) ⟨xi_NoStep,(xw xn_NoStep_NoStory (xh xd_NoStory xt_NoStory xs_NoStep_NoStory))⟩) (yv (wt (v:=false) xa_TooGreat (by decide +kernel) ⟨xi_TooGreat,(xw xn_TooGreat_NoStory (xh xd_NoStory xt_NoStory xs_TooGreat_NoStory))⟩) vv))⟩,⟨_,PySem.W.mg_of X G xa_NoText,kl (c:=λ_=>True) km (yv (wt (v:=false) xa_NoStep (by decide +kernel) ⟨xi_NoStep,(xw xn_NoStep_NoText (xh xd_NoText xt_NoText xs_NoStep_NoText))⟩) (yv (wt (v:=false) xa_TooGreat (by decide +kernel) ⟨xi_TooGreat,(xw xn_TooGreat_NoText (xh xd_NoText xt_NoText xs_TooGreat_NoText))⟩) vv))⟩,⟨_,PySem.W.mg_of X G xa_TooGreat,kl (c:=λ_=>True) km (yv (wt (v:=false) xa_NoStep (by decide +kernel) ⟨xi_NoStep,(xw xn_NoStep_TooGreat (xh xd_TooGreat xt_TooGreat xs_NoStep_TooGreat))⟩) (yv (wt (v:=true) xa_TooGreat (by decide +kernel) ⟨xi_TooGreat,zby⟩) vv))⟩,(kl (c:=λ_=>True) zkc (yv (wt (v:=true) xa_NoStep (by decide +kernel) ⟨xi_NoStep,(wr (by decide +kernel) xb_NoStep_ValueError)⟩) (yv (wt (v:=true) xa_TooGreat (by decide +kernel) ⟨xi_TooGreat,(wr (by decide +kernel) xb_TooGreat_ValueError)⟩) vv))),(kl (c:=λ_=>True) zkc (yv (wt (v:=false) xa_NoStep (by decide +kernel) ⟨xi_NoStep,(vi (wr (by decide +kernel) xb_NoStep_LookupError) (vi (wr (by decide +kernel) xb_NoStep_TypeError) (vi (wr (by decide +kernel) xb_NoStep_ArithmeticError) (vi (wr (by decide +kernel) xb_NoStep_RuntimeError) zc1))))⟩) (yv (wt (v:=false) xa_TooGreat (by decide +kernel) ⟨xi_TooGreat,(vi (wr (by decide +kernel) xb_TooGreat_LookupError) (vi (wr (by decide +kernel) xb_TooGreat_TypeError) (vi (wr (by decide +kernel) xb_TooGreat_ArithmeticError) (vi (wr (by decide +kernel) xb_TooGreat_RuntimeError) zc1))))⟩) vv)))⟩
 have F0:=yx (st:=wl) l0 c0 k0;have b0:=F0.binds (ps:=["thing"]) λ_ _ _ _ _ _ us hl=>by obtain⟨_,rfl⟩:=zbb hl;rfl
 have F1:=yx (st:=wm) l1 c1 k1;have b1:=F1.binds (ps:=["road", "time"]) λ_ _ _ _ _ _ us hl=>by obtain⟨_,_,rfl⟩:=zbc hl;rfl
 have F2:=yx (st:=x3) l2 c2 k2;have b2:=F2.binds (ps:=["road", "time"]) λ_ _ _ _ _ _ us hl=>by obtain⟨_,_,rfl⟩:=zbc hl;rfl
 have F3:=yx (st:=wn) l3 c3 k3;have b3:=F3.binds (ps:=["road"]) λ_ _ _ _ _ _ us hl=>by obtain⟨_,rfl⟩:=zbb hl;rfl
 have F4:=yx (st:=xk) l4 c4 k4;have b4:=F4.binds (ps:=["road"]) λ_ _ _ _ _ _ us hl=>by obtain⟨_,rfl⟩:=zbb hl;rfl
 have F5:=yx (st:=wy) l5 c5 k5;have b5:=F5.binds (ps:=["road", "time"]) λ_ _ _ _ _ _ us hl=>by obtain⟨_,_,rfl⟩:=zbc hl;rfl
 have F6:=yx (st:=xl) l6 c6 k6;have b6:=F6.binds (ps:=["road", "thing"]) λ_ _ _ _ _ _ us hl=>by obtain⟨_,_,rfl⟩:=zbc hl;rfl
 have F7:=yx (st:=wz) l7 c7 k7;have b7:=F7.binds (ps:=["road", "order"]) λ_ _ _ _ _ _ us hl=>by obtain⟨_,_,rfl⟩:=zbc hl;rfl
 have F8:=yx (st:=xm) l8 c8 k8;have b8:=F8.binds (ps:=["road"]) λ_ _ _ _ _ _ us hl=>by obtain⟨_,rfl⟩:=zbb hl;rfl
 have F9:=yx (st:=xn) l9 c9 k9;have b9:=F9.binds (ps:=["many"]) λ_ _ _ _ _ _ us hl=>by obtain⟨_,rfl⟩:=zbb hl;rfl
 have F10:=yx (st:=xp) l10 c10 k10;have b10:=F10.binds (ps:=["road", "time"]) λ_ _ _ _ _ _ us hl=>by obtain⟨_,_,rfl⟩:=zbc hl;rfl
 have F11:=yx (st:=yz) l11 c11 k11;have b11:=F11.binds (ps:=["_law_script", "_law_k"]) λ_ _ _ _ _ _ us hl=>by obtain⟨_,_,rfl⟩:=zbc hl;rfl
 have F12:=yx (st:=x4) l12 c12 k12;have b12:=F12.binds (ps:=["_law_seed"]) λ_ _ _ _ _ _ us hl=>by obtain⟨_,rfl⟩:=zbb hl;rfl
 have F13:=yx (st:=y4) l13 c13 k13;have b13:=F13.binds (ps:=["_law_cell"]) λ_ _ _ _ _ _ us hl=>by obtain⟨_,rfl⟩:=zbb hl;rfl
 have F14:=yx (st:=x5) l14 c14 k14;have b14:=F14.binds (ps:=["_law_pen", "_law_many"]) λ_ _ _ _ _ _ us hl=>by obtain⟨_,_,rfl⟩:=zbc hl;rfl
 have F15:=yx (st:=x6) l15 c15 k15;have b15:=F15.binds (ps:=["_law_pen"]) λ_ _ _ _ _ _ us hl=>by obtain⟨_,rfl⟩:=zbb hl;rfl
 have F16:=yx (st:=wo) l16 c16 k16;have b16:=F16.binds (ps:=["_law_pen"]) λ_ _ _ _ _ _ us hl=>by obtain⟨_,rfl⟩:=zbb hl;rfl
 have F17:=yx (st:=y1) l17 c17 k17;have b17:=F17.binds (ps:=["_law_e"]) λ_ _ _ _ _ _ us hl=>by obtain⟨_,rfl⟩:=zbb hl;rfl
 have F18:=yx (st:=xq) l18 c18 k18;have b18:=F18.binds (ps:=["_law_found"]) λ_ _ _ _ _ _ us hl=>by obtain⟨_,rfl⟩:=zbb hl;rfl
 have F19:=yx (st:=y6) l19 c19 k19;have b19:=F19.binds (ps:=["_law_many"]) λ_ _ _ _ _ _ us hl=>by obtain⟨_,rfl⟩:=zbb hl;rfl
 have F20:=yx (st:=x8) l20 c20 k20;have b20:=F20.binds (ps:=["_law_way", "_law_road_here", "_law_thing"]) λ_ _ _ _ _ _ us hl=>by obtain⟨_,_,_,rfl⟩:=zvw hl;rfl
 have F21:=yx (st:=xr) l21 c21 k21;have b21:=F21.binds (ps:=["_law_pen", "_law_many"]) λ_ _ _ _ _ _ us hl=>by obtain⟨_,_,rfl⟩:=zbc hl;rfl
 have F22:=yx (st:=x9) l22 c22 k22;have b22:=F22.binds (ps:=["_law_pen", "_law_order_here"]) λ_ _ _ _ _ _ us hl=>by obtain⟨_,_,rfl⟩:=zbc hl;rfl
 have F23:=yx (st:=yq) l23 c23 k23;have b23:=F23.binds (ps:=["_law_many", "_law_thing"]) λ_ _ _ _ _ _ us hl=>by obtain⟨_,_,rfl⟩:=zbc hl;rfl
 have F24:=yx (st:=xt) l24 c24 k24;have b24:=F24.binds (ps:=["_law_road_here"]) λ_ _ _ _ _ _ us hl=>by obtain⟨_,rfl⟩:=zbb hl;rfl
 have F25:=yx (st:=y8) l25 c25 k25;have b25:=F25.binds (ps:=["_law_road_here", "_law_time"]) λ_ _ _ _ _ _ us hl=>by obtain⟨_,_,rfl⟩:=zbc hl;rfl
 have F26:=yx (st:=yi) l26 c26 k26;have b26:=F26.binds (ps:=["_law_pen", "_law_road_here"]) λ_ _ _ _ _ _ us hl=>by obtain⟨_,_,rfl⟩:=zbc hl;rfl
 have F27:=yx (st:=ja) l27 c27 k27;refine⟨PySem.W.fnOf "law" "law" (zm ja) (zh ja) (zc ja) .none kV27 dc27 pm27 an27 cd27 ct27,λs v=>.of_eq rfl,λbase _ _ hB hC=>?_⟩;have FI_TooGreat:=yx (st:=qo wj 0) xl_TooGreat xw_TooGreat xy_TooGreat;have XC_TooGreat:zl0 K c_TooGreat i_TooGreat ["many", "most"]:=⟨xe_TooGreat,xu_TooGreat,(yv xv_TooGreat_many (yv xv_TooGreat_most vv))⟩
 have R_TooGreat:zoy l.prog w K mg base "TooGreat" ["many", "most"]:=⟨_,_,_,_,_,PySem.W.mg_of X G xa_TooGreat,xa_TooGreat,XC_TooGreat,zow FI_TooGreat zfx (FI_TooGreat.binds (ps:=["self", "many", "most"]) λ_ _ _ _ _ _ us hl=>by obtain⟨_,_,_,rfl⟩:=zvw hl;rfl) XC_TooGreat (by decide) rfl,xl_TooGreat⟩
 have C_is_whole:ym l.prog w K mg base _ "is_whole" ["thing"] _:=⟨_,_,zhj B F0  ,b0,k0,PySem.W.mg_of X G a0⟩
 have C_times_of:ym l.prog w K mg base _ "times_of" ["road", "time"] _:=⟨_,_,zhk B F1  ,b1,k1,PySem.W.mg_of X G a1⟩
 have C_needs_of:ym l.prog w K mg base _ "needs_of" ["road"] _:=⟨_,_,zhl B F3  ,b3,k3,PySem.W.mg_of X G a3⟩
 have C_all_orders:ym l.prog w K mg base _ "all_orders" ["many"] _:=⟨_,_,zdz B F9  ,b9,k9,PySem.W.mg_of X G a9⟩
 have C__law_cell_at:ym l.prog w K mg base _ "_law_cell_at" ["_law_script", "_law_k"] _:=⟨_,_,zb5 B F11  ,b11,k11,PySem.W.mg_of X G a11⟩
 have C__law_next:ym l.prog w K mg base _ "_law_next" ["_law_seed"] _:=⟨_,_,zfy B F12  ,b12,k12,PySem.W.mg_of X G a12⟩
 have C__law_pen_of:ym l.prog w K mg base _ "_law_pen_of" ["_law_cell"] _:=⟨_,_,zc8 B F13  ,b13,k13,PySem.W.mg_of X G a13⟩
 have C__law_refusal:za3 l.prog w K mg base _ "_law_refusal" ["_law_e"] _:=⟨_,_,zb6 B F17  XF ,b17,k17,PySem.W.mg_of X G a17⟩
 have C__law_whole:ym l.prog w K mg base _ "_law_whole" ["_law_found"] _:=⟨_,_,zdw B F18  ,b18,k18,PySem.W.mg_of X G a18⟩
 have C__law_orders:ym l.prog w K mg base _ "_law_orders" ["_law_many"] _:=⟨_,_,zdf B F19  ,b19,k19,PySem.W.mg_of X G a19⟩
 have C__law_least:ym l.prog w K mg base _ "_law_least" ["_law_road_here"] _:=⟨_,_,zd3 B F24  ,b24,k24,PySem.W.mg_of X G a24⟩
 have C__law_worked:ym l.prog w K mg base _ "_law_worked" ["_law_road_here", "_law_time"] _:=⟨_,_,zdg B F25  ,b25,k25,PySem.W.mg_of X G a25⟩
 have C_turned_at:ym l.prog w K mg base _ "turned_at" ["road", "time"] _:=⟨_,_,zf0 B F2  C_times_of,b2,k2,PySem.W.mg_of X G a2⟩
 have C_least_time:ym l.prog w K mg base _ "least_time" ["road"] _:=⟨_,_,zdx B F4  C_needs_of,b4,k4,PySem.W.mg_of X G a4⟩
 have C_order_good:ym l.prog w K mg base _ "order_good" ["road", "thing"] _:=⟨_,_,zdy B F6  C_is_whole,b6,k6,PySem.W.mg_of X G a6⟩
 have C__law_draw:ym l.prog w K mg base _ "_law_draw" ["_law_pen", "_law_many"] _:=⟨_,_,zfz B F14  C__law_next,b14,k14,PySem.W.mg_of X G a14⟩
 have C__law_is_order:ym l.prog w K mg base _ "_law_is_order" ["_law_many", "_law_thing"] _:=⟨_,_,zbt B F23  C__law_whole,b23,k23,PySem.W.mg_of X G a23⟩
 have C_vain_of:ym l.prog w K mg base _ "vain_of" ["road", "time"] _:=⟨_,_,zja B F5  C_turned_at C_needs_of,b5,k5,PySem.W.mg_of X G a5⟩
 have C_ordered:CalleeX l.prog w K mg base _ "ordered" ["road", "order"] _:=⟨_,_,zjd B F7  XF C_order_good,b7,k7,PySem.W.mg_of X G a7⟩
 have C__law_road:ym l.prog w K mg base _ "_law_road" ["_law_pen"] _:=⟨_,_,zf1 B F15  C__law_draw,b15,k15,PySem.W.mg_of X G a15⟩
 have C__law_odd:ym l.prog w K mg base _ "_law_odd" ["_law_pen"] _:=⟨_,_,zhp B F16  C__law_draw,b16,k16,PySem.W.mg_of X G a16⟩
 have C__law_order:ym l.prog w K mg base _ "_law_order" ["_law_pen", "_law_many"] _:=⟨_,_,zd2 B F21  C__law_draw,b21,k21,PySem.W.mg_of X G a21⟩
 have C_best_order:ym l.prog w K mg base _ "best_order" ["road"] _:=⟨_,_,zd1 B F8 hB hC hcd  ,b8,k8,PySem.W.mg_of X G a8⟩
 have C__law_bent:ym l.prog w K mg base _ "_law_bent" ["_law_pen", "_law_order_here"] _:=⟨_,_,zf4 B F22  C__law_draw C__law_odd,b22,k22,PySem.W.mg_of X G a22⟩
 have C_least_vain:CalleeX l.prog w K mg base _ "least_vain" ["road", "time"] _:=⟨_,_,zd0 B F10 G_MOST_ORDERED XF R_TooGreat C_vain_of C_ordered C_all_orders,b10,k10,PySem.W.mg_of X G a10⟩
 have C__law_told:ym l.prog w K mg base _ "_law_told" ["_law_way", "_law_road_here", "_law_thing"] _:=⟨_,_,zf3 B F20  XF C_ordered C_least_vain C__law_refusal,b20,k20,PySem.W.mg_of X G a20⟩
 have C__law_best_right:ym l.prog w K mg base _ "_law_best_right" ["_law_pen", "_law_road_here"] _:=⟨_,_,zat B F26  C_least_time C_best_order C__law_draw C__law_orders C__law_told C__law_is_order C__law_least C__law_worked,b26,k26,PySem.W.mg_of X G a26⟩
 exact zug B F27  C__law_cell_at C__law_pen_of C__law_draw C__law_road C__law_told C__law_order C__law_bent C__law_is_order C__law_best_right
theorem nF{a d s}{g:FuncData}:(⟨a,d,.func g,s⟩:Obj)≠zb3:=λz=>by cases z
theorem all_mkT{l:PySem.W.OpenLaw}{w:World}{K:PySem.W.Frag}{h:Heap}{mg:Str->Option Value}{fa f0 f1 f2 f3 f4 f5 f6 f7 f8 f9 f10 f11 f12 f13 f14 f15 f16 f17 f18 f19 f20 f21 f22 f23 f24 f25 f26 f27:Addr}(X:K.In h)(G:h.Ns mainGlobals mg)(hfa:mg "law" = some (.ref fa))
  {od0 an0:Option Addr}{sl0:Array (Option Value)}{oc0 kV0 dc0 pm0 cd0 ct0:Value}
  (a0:PySem.W.nsIn K mainGlobals "is_whole" = some (some (.ref f0))) (l0:K.lookup f0=some ⟨oc0,od0,.func (PySem.W.fnOf "is_whole" "is_whole" (zm wl) (zh wl) (zc wl) .none kV0 dc0 pm0 an0 cd0 ct0),sl0⟩) (c0:PySem.W.codeIn K cd0 "is_whole" = true) (k0:PySem.W.keepIn K (.ref f0)=true)
  {od1 an1:Option Addr}{sl1:Array (Option Value)}{oc1 kV1 dc1 pm1 cd1 ct1:Value}
  (a1:PySem.W.nsIn K mainGlobals "times_of" = some (some (.ref f1))) (l1:K.lookup f1=some ⟨oc1,od1,.func (PySem.W.fnOf "times_of" "times_of" (zm wm) (zh wm) (zc wm) .none kV1 dc1 pm1 an1 cd1 ct1),sl1⟩) (c1:PySem.W.codeIn K cd1 "times_of" = true) (k1:PySem.W.keepIn K (.ref f1)=true)
  {od2 an2:Option Addr}{sl2:Array (Option Value)}{oc2 kV2 dc2 pm2 cd2 ct2:Value}
  (a2:PySem.W.nsIn K mainGlobals "turned_at" = some (some (.ref f2))) (l2:K.lookup f2=some ⟨oc2,od2,.func (PySem.W.fnOf "turned_at" "turned_at" (zm x3) (zh x3) (zc x3) .none kV2 dc2 pm2 an2 cd2 ct2),sl2⟩) (c2:PySem.W.codeIn K cd2 "turned_at" = true) (k2:PySem.W.keepIn K (.ref f2)=true)
  {od3 an3:Option Addr}{sl3:Array (Option Value)}{oc3 kV3 dc3 pm3 cd3 ct3:Value}
  (a3:PySem.W.nsIn K mainGlobals "needs_of" = some (some (.ref f3))) (l3:K.lookup f3=some ⟨oc3,od3,.func (PySem.W.fnOf "needs_of" "needs_of" (zm wn) (zh wn) (zc wn) .none kV3 dc3 pm3 an3 cd3 ct3),sl3⟩) (c3:PySem.W.codeIn K cd3 "needs_of" = true) (k3:PySem.W.keepIn K (.ref f3)=true)
  {od4 an4:Option Addr}{sl4:Array (Option Value)}{oc4 kV4 dc4 pm4 cd4 ct4:Value}
  (a4:PySem.W.nsIn K mainGlobals "least_time" = some (some (.ref f4))) (l4:K.lookup f4=some ⟨oc4,od4,.func (PySem.W.fnOf "least_time" "least_time" (zm xk) (zh xk) (zc xk) .none kV4 dc4 pm4 an4 cd4 ct4),sl4⟩) (c4:PySem.W.codeIn K cd4 "least_time" = true) (k4:PySem.W.keepIn K (.ref f4)=true)
  {od5 an5:Option Addr}{sl5:Array (Option Value)}{oc5 kV5 dc5 pm5 cd5 ct5:Value}
  (a5:PySem.W.nsIn K mainGlobals "vain_of" = some (some (.ref f5))) (l5:K.lookup f5=some ⟨oc5,od5,.func (PySem.W.fnOf "vain_of" "vain_of" (zm wy) (zh wy) (zc wy) .none kV5 dc5 pm5 an5 cd5 ct5),sl5⟩) (c5:PySem.W.codeIn K cd5 "vain_of" = true) (k5:PySem.W.keepIn K (.ref f5)=true)
  {od6 an6:Option Addr}{sl6:Array (Option Value)}{oc6 kV6 dc6 pm6 cd6 ct6:Value}
  (a6:PySem.W.nsIn K mainGlobals "order_good" = some (some (.ref f6))) (l6:K.lookup f6=some ⟨oc6,od6,.func (PySem.W.fnOf "order_good" "order_good" (zm xl) (zh xl) (zc xl) .none kV6 dc6 pm6 an6 cd6 ct6),sl6⟩) (c6:PySem.W.codeIn K cd6 "order_good" = true) (k6:PySem.W.keepIn K (.ref f6)=true)
  {od7 an7:Option Addr}{sl7:Array (Option Value)}{oc7 kV7 dc7 pm7 cd7 ct7:Value}
  (a7:PySem.W.nsIn K mainGlobals "ordered" = some (some (.ref f7))) (l7:K.lookup f7=some ⟨oc7,od7,.func (PySem.W.fnOf "ordered" "ordered" (zm wz) (zh wz) (zc wz) .none kV7 dc7 pm7 an7 cd7 ct7),sl7⟩) (c7:PySem.W.codeIn K cd7 "ordered" = true) (k7:PySem.W.keepIn K (.ref f7)=true)
  {od8 an8:Option Addr}{sl8:Array (Option Value)}{oc8 kV8 dc8 pm8 cd8 ct8:Value}
  (a8:PySem.W.nsIn K mainGlobals "best_order" = some (some (.ref f8))) (l8:K.lookup f8=some ⟨oc8,od8,.func (PySem.W.fnOf "best_order" "best_order" (zm xm) (zh xm) (zc xm) .none kV8 dc8 pm8 an8 cd8 ct8),sl8⟩) (c8:PySem.W.codeIn K cd8 "best_order" = true) (k8:PySem.W.keepIn K (.ref f8)=true)
  {od9 an9:Option Addr}{sl9:Array (Option Value)}{oc9 kV9 dc9 pm9 cd9 ct9:Value}
  (a9:PySem.W.nsIn K mainGlobals "all_orders" = some (some (.ref f9))) (l9:K.lookup f9=some ⟨oc9,od9,.func (PySem.W.fnOf "all_orders" "all_orders" (zm xn) (zh xn) (zc xn) .none kV9 dc9 pm9 an9 cd9 ct9),sl9⟩) (c9:PySem.W.codeIn K cd9 "all_orders" = true) (k9:PySem.W.keepIn K (.ref f9)=true)
  {od10 an10:Option Addr}{sl10:Array (Option Value)}{oc10 kV10 dc10 pm10 cd10 ct10:Value}
  (a10:PySem.W.nsIn K mainGlobals "least_vain" = some (some (.ref f10))) (l10:K.lookup f10=some ⟨oc10,od10,.func (PySem.W.fnOf "least_vain" "least_vain" (zm xp) (zh xp) (zc xp) .none kV10 dc10 pm10 an10 cd10 ct10),sl10⟩) (c10:PySem.W.codeIn K cd10 "least_vain" = true) (k10:PySem.W.keepIn K (.ref f10)=true)
  {od11 an11:Option Addr}{sl11:Array (Option Value)}{oc11 kV11 dc11 pm11 cd11 ct11:Value}
  (a11:PySem.W.nsIn K mainGlobals "_law_cell_at" = some (some (.ref f11))) (l11:K.lookup f11=some ⟨oc11,od11,.func (PySem.W.fnOf "_law_cell_at" "_law_cell_at" (zm yz) (zh yz) (zc yz) .none kV11 dc11 pm11 an11 cd11 ct11),sl11⟩) (c11:PySem.W.codeIn K cd11 "_law_cell_at" = true) (k11:PySem.W.keepIn K (.ref f11)=true)
  {od12 an12:Option Addr}{sl12:Array (Option Value)}{oc12 kV12 dc12 pm12 cd12 ct12:Value}
  (a12:PySem.W.nsIn K mainGlobals "_law_next" = some (some (.ref f12))) (l12:K.lookup f12=some ⟨oc12,od12,.func (PySem.W.fnOf "_law_next" "_law_next" (zm x4) (zh x4) (zc x4) .none kV12 dc12 pm12 an12 cd12 ct12),sl12⟩) (c12:PySem.W.codeIn K cd12 "_law_next" = true) (k12:PySem.W.keepIn K (.ref f12)=true)
  {od13 an13:Option Addr}{sl13:Array (Option Value)}{oc13 kV13 dc13 pm13 cd13 ct13:Value}
  (a13:PySem.W.nsIn K mainGlobals "_law_pen_of" = some (some (.ref f13))) (l13:K.lookup f13=some ⟨oc13,od13,.func (PySem.W.fnOf "_law_pen_of" "_law_pen_of" (zm y4) (zh y4) (zc y4) .none kV13 dc13 pm13 an13 cd13 ct13),sl13⟩) (c13:PySem.W.codeIn K cd13 "_law_pen_of" = true) (k13:PySem.W.keepIn K (.ref f13)=true)
  {od14 an14:Option Addr}{sl14:Array (Option Value)}{oc14 kV14 dc14 pm14 cd14 ct14:Value}
  (a14:PySem.W.nsIn K mainGlobals "_law_draw" = some (some (.ref f14))) (l14:K.lookup f14=some ⟨oc14,od14,.func (PySem.W.fnOf "_law_draw" "_law_draw" (zm x5) (zh x5) (zc x5) .none kV14 dc14 pm14 an14 cd14 ct14),sl14⟩) (c14:PySem.W.codeIn K cd14 "_law_draw" = true) (k14:PySem.W.keepIn K (.ref f14)=true)
  {od15 an15:Option Addr}{sl15:Array (Option Value)}{oc15 kV15 dc15 pm15 cd15 ct15:Value}
  (a15:PySem.W.nsIn K mainGlobals "_law_road" = some (some (.ref f15))) (l15:K.lookup f15=some ⟨oc15,od15,.func (PySem.W.fnOf "_law_road" "_law_road" (zm x6) (zh x6) (zc x6) .none kV15 dc15 pm15 an15 cd15 ct15),sl15⟩) (c15:PySem.W.codeIn K cd15 "_law_road" = true) (k15:PySem.W.keepIn K (.ref f15)=true)
  {od16 an16:Option Addr}{sl16:Array (Option Value)}{oc16 kV16 dc16 pm16 cd16 ct16:Value}
  (a16:PySem.W.nsIn K mainGlobals "_law_odd" = some (some (.ref f16))) (l16:K.lookup f16=some ⟨oc16,od16,.func (PySem.W.fnOf "_law_odd" "_law_odd" (zm wo) (zh wo) (zc wo) .none kV16 dc16 pm16 an16 cd16 ct16),sl16⟩) (c16:PySem.W.codeIn K cd16 "_law_odd" = true) (k16:PySem.W.keepIn K (.ref f16)=true)
  {od17 an17:Option Addr}{sl17:Array (Option Value)}{oc17 kV17 dc17 pm17 cd17 ct17:Value}
  (a17:PySem.W.nsIn K mainGlobals "_law_refusal" = some (some (.ref f17))) (l17:K.lookup f17=some ⟨oc17,od17,.func (PySem.W.fnOf "_law_refusal" "_law_refusal" (zm y1) (zh y1) (zc y1) .none kV17 dc17 pm17 an17 cd17 ct17),sl17⟩) (c17:PySem.W.codeIn K cd17 "_law_refusal" = true) (k17:PySem.W.keepIn K (.ref f17)=true)
  {od18 an18:Option Addr}{sl18:Array (Option Value)}{oc18 kV18 dc18 pm18 cd18 ct18:Value}
  (a18:PySem.W.nsIn K mainGlobals "_law_whole" = some (some (.ref f18))) (l18:K.lookup f18=some ⟨oc18,od18,.func (PySem.W.fnOf "_law_whole" "_law_whole" (zm xq) (zh xq) (zc xq) .none kV18 dc18 pm18 an18 cd18 ct18),sl18⟩) (c18:PySem.W.codeIn K cd18 "_law_whole" = true) (k18:PySem.W.keepIn K (.ref f18)=true)
  {od19 an19:Option Addr}{sl19:Array (Option Value)}{oc19 kV19 dc19 pm19 cd19 ct19:Value}
  (a19:PySem.W.nsIn K mainGlobals "_law_orders" = some (some (.ref f19))) (l19:K.lookup f19=some ⟨oc19,od19,.func (PySem.W.fnOf "_law_orders" "_law_orders" (zm y6) (zh y6) (zc y6) .none kV19 dc19 pm19 an19 cd19 ct19),sl19⟩) (c19:PySem.W.codeIn K cd19 "_law_orders" = true) (k19:PySem.W.keepIn K (.ref f19)=true)
  {od20 an20:Option Addr}{sl20:Array (Option Value)}{oc20 kV20 dc20 pm20 cd20 ct20:Value}
  (a20:PySem.W.nsIn K mainGlobals "_law_told" = some (some (.ref f20))) (l20:K.lookup f20=some ⟨oc20,od20,.func (PySem.W.fnOf "_law_told" "_law_told" (zm x8) (zh x8) (zc x8) .none kV20 dc20 pm20 an20 cd20 ct20),sl20⟩) (c20:PySem.W.codeIn K cd20 "_law_told" = true) (k20:PySem.W.keepIn K (.ref f20)=true)
  {od21 an21:Option Addr}{sl21:Array (Option Value)}{oc21 kV21 dc21 pm21 cd21 ct21:Value}
  (a21:PySem.W.nsIn K mainGlobals "_law_order" = some (some (.ref f21))) (l21:K.lookup f21=some ⟨oc21,od21,.func (PySem.W.fnOf "_law_order" "_law_order" (zm xr) (zh xr) (zc xr) .none kV21 dc21 pm21 an21 cd21 ct21),sl21⟩) (c21:PySem.W.codeIn K cd21 "_law_order" = true) (k21:PySem.W.keepIn K (.ref f21)=true)
  {od22 an22:Option Addr}{sl22:Array (Option Value)}{oc22 kV22 dc22 pm22 cd22 ct22:Value}
  (a22:PySem.W.nsIn K mainGlobals "_law_bent" = some (some (.ref f22))) (l22:K.lookup f22=some ⟨oc22,od22,.func (PySem.W.fnOf "_law_bent" "_law_bent" (zm x9) (zh x9) (zc x9) .none kV22 dc22 pm22 an22 cd22 ct22),sl22⟩) (c22:PySem.W.codeIn K cd22 "_law_bent" = true) (k22:PySem.W.keepIn K (.ref f22)=true)
  {od23 an23:Option Addr}{sl23:Array (Option Value)}{oc23 kV23 dc23 pm23 cd23 ct23:Value}
  (a23:PySem.W.nsIn K mainGlobals "_law_is_order" = some (some (.ref f23))) (l23:K.lookup f23=some ⟨oc23,od23,.func (PySem.W.fnOf "_law_is_order" "_law_is_order" (zm yq) (zh yq) (zc yq) .none kV23 dc23 pm23 an23 cd23 ct23),sl23⟩) (c23:PySem.W.codeIn K cd23 "_law_is_order" = true) (k23:PySem.W.keepIn K (.ref f23)=true)
  {od24 an24:Option Addr}{sl24:Array (Option Value)}{oc24 kV24 dc24 pm24 cd24 ct24:Value}
  (a24:PySem.W.nsIn K mainGlobals "_law_least" = some (some (.ref f24))) (l24:K.lookup f24=some ⟨oc24,od24,.func (PySem.W.fnOf "_law_least" "_law_least" (zm xt) (zh xt) (zc xt) .none kV24 dc24 pm24 an24 cd24 ct24),sl24⟩) (c24:PySem.W.codeIn K cd24 "_law_least" = true) (k24:PySem.W.keepIn K (.ref f24)=true)
  {od25 an25:Option Addr}{sl25:Array (Option Value)}{oc25 kV25 dc25 pm25 cd25 ct25:Value}
  (a25:PySem.W.nsIn K mainGlobals "_law_worked" = some (some (.ref f25))) (l25:K.lookup f25=some ⟨oc25,od25,.func (PySem.W.fnOf "_law_worked" "_law_worked" (zm y8) (zh y8) (zc y8) .none kV25 dc25 pm25 an25 cd25 ct25),sl25⟩) (c25:PySem.W.codeIn K cd25 "_law_worked" = true) (k25:PySem.W.keepIn K (.ref f25)=true)
  {od26 an26:Option Addr}{sl26:Array (Option Value)}{oc26 kV26 dc26 pm26 cd26 ct26:Value}
  (a26:PySem.W.nsIn K mainGlobals "_law_best_right" = some (some (.ref f26))) (l26:K.lookup f26=some ⟨oc26,od26,.func (PySem.W.fnOf "_law_best_right" "_law_best_right" (zm yi) (zh yi) (zc yi) .none kV26 dc26 pm26 an26 cd26 ct26),sl26⟩) (c26:PySem.W.codeIn K cd26 "_law_best_right" = true) (k26:PySem.W.keepIn K (.ref f26)=true)
  {od27 an27:Option Addr}{sl27:Array (Option Value)}{oc27 kV27 dc27 pm27 cd27 ct27:Value}
  (a27:PySem.W.nsIn K mainGlobals "law" = some (some (.ref f27))) (l27:K.lookup f27=some ⟨oc27,od27,.func (PySem.W.fnOf "law" "law" (zm ja) (zh ja) (zc ja) .none kV27 dc27 pm27 an27 cd27 ct27),sl27⟩) (c27:PySem.W.codeIn K cd27 "law" = true) (k27:PySem.W.keepIn K (.ref f27)=true)
  (z_len:PySem.W.nsIn K mainGlobals "len" = some none)
  (z_range:PySem.W.nsIn K mainGlobals "range" = some none)
  (z_enumerate:PySem.W.nsIn K mainGlobals "enumerate" = some none)
  (z_sum:PySem.W.nsIn K mainGlobals "sum" = some none)
  (z_min:PySem.W.nsIn K mainGlobals "min" = some none)
  (z_max:PySem.W.nsIn K mainGlobals "max" = some none)
  (z_repr:PySem.W.nsIn K mainGlobals "repr" = some none)
  (z_isinstance:PySem.W.nsIn K mainGlobals "isinstance" = some none)
  (z_all:PySem.W.nsIn K mainGlobals "all" = some none)
  (z_sorted:PySem.W.nsIn K mainGlobals "sorted" = some none)
  (z_tupleT:PySem.W.nsIn K mainGlobals "tuple" = some none)
  (z_intT:PySem.W.nsIn K mainGlobals "int" = some none)
  (z_listT:PySem.W.nsIn K mainGlobals "list" = some none)
  (z_strT:PySem.W.nsIn K mainGlobals "str" = some none)
  (z_boolT:PySem.W.nsIn K mainGlobals "bool" = some none)
  (z_ValueError:PySem.W.nsIn K mainGlobals "ValueError" = some none)
  (z_LookupError:PySem.W.nsIn K mainGlobals "LookupError" = some none)
  (z_TypeError:PySem.W.nsIn K mainGlobals "TypeError" = some none)
  (z_ArithmeticError:PySem.W.nsIn K mainGlobals "ArithmeticError" = some none)
  (z_RuntimeError:PySem.W.nsIn K mainGlobals "RuntimeError" = some none)
  {t_MOST_ORDERED:Tok} (y_MOST_ORDERED:PySem.W.nsIn K mainGlobals "MOST_ORDERED" = some (some (.int 6 t_MOST_ORDERED)))
  {T:Addr}
  {c_NoStep:Addr} (xa_NoStep:PySem.W.nsIn K mainGlobals "NoStep" = some (some (.ref c_NoStep)))
  {c_TooGreat:Addr} (xa_TooGreat:PySem.W.nsIn K mainGlobals "TooGreat" = some (some (.ref c_TooGreat)))
  {c_KnockError:Addr} (xa_KnockError:PySem.W.nsIn K mainGlobals "KnockError" = some (some (.ref c_KnockError)))
  {c_NoBeat:Addr} (xa_NoBeat:PySem.W.nsIn K mainGlobals "NoBeat" = some (some (.ref c_NoBeat)))
  {c_NoNumber:Addr} (xa_NoNumber:PySem.W.nsIn K mainGlobals "NoNumber" = some (some (.ref c_NoNumber)))
  {c_NoLine:Addr} (xa_NoLine:PySem.W.nsIn K mainGlobals "NoLine" = some (some (.ref c_NoLine)))
  {c_NoStory:Addr} (xa_NoStory:PySem.W.nsIn K mainGlobals "NoStory" = some (some (.ref c_NoStory)))
  {c_NoText:Addr} (xa_NoText:PySem.W.nsIn K mainGlobals "NoText" = some (some (.ref c_NoText)))
  (xd_NoStep:PySem.W.hasDictIn (zx T K) c_NoStep=true)
  (xt_NoStep:PySem.W.typeIn (zx T K) (.ref c_NoStep)=some (.type "type"))
  (xd_TooGreat:PySem.W.hasDictIn (zx T K) c_TooGreat=true)
  (xt_TooGreat:PySem.W.typeIn (zx T K) (.ref c_TooGreat)=some (.type "type"))
  (xd_KnockError:PySem.W.hasDictIn (zx T K) c_KnockError=true)
  (xt_KnockError:PySem.W.typeIn (zx T K) (.ref c_KnockError)=some (.type "type"))
  (xd_NoBeat:PySem.W.hasDictIn (zx T K) c_NoBeat=true)
  (xt_NoBeat:PySem.W.typeIn (zx T K) (.ref c_NoBeat)=some (.type "type"))
  (xd_NoNumber:PySem.W.hasDictIn (zx T K) c_NoNumber=true)
  (xt_NoNumber:PySem.W.typeIn (zx T K) (.ref c_NoNumber)=some (.type "type"))
  (xd_NoLine:PySem.W.hasDictIn (zx T K) c_NoLine=true)
  (xt_NoLine:PySem.W.typeIn (zx T K) (.ref c_NoLine)=some (.type "type"))
  (xd_NoStory:PySem.W.hasDictIn (zx T K) c_NoStory=true)
  (xt_NoStory:PySem.W.typeIn (zx T K) (.ref c_NoStory)=some (.type "type"))
  (xd_NoText:PySem.W.hasDictIn (zx T K) c_NoText=true)
  (xt_NoText:PySem.W.typeIn (zx T K) (.ref c_NoText)=some (.type "type"))
  (xsp:PySem.W.specialIn (zx T K) (.builtin "object.__class__") "__get__" = some (some (.builtin "getset_descriptor.__get__")))
  (xtk:PySem.W.takesIn (zx T K) (.builtin "object.__class__")=some true)
  (xkb:PySem.W.subIn (zx T K) (.ref c_KnockError) (.type "BaseException")=some true)
  (xe_NoStep:PySem.W.excIn (zx T K) c_NoStep [.type "ValueError",.type "Exception",.type "BaseException",.type "object"] "ValueError.__new__" = true)
  (xg_NoStep:PySem.W.findIn (zx T K) (.ref c_NoStep) "__getattribute__" = some (some (.builtin "BaseException.__getattribute__")))
  (xh_NoStep:PySem.W.findIn (zx T K) (.ref c_NoStep) "__getattr__" = some none)
  (xo_NoStep:PySem.W.mroIn (zx T K) c_NoStep (.type "BaseException")=some true)
  (xf_NoStep:PySem.W.findIn (zx T K) (.ref c_NoStep) "__class__" = some (some (.builtin "object.__class__")))
  (xm_NoStep:PySem.W.mroIn (zx T K) c_NoStep (.type "object")=some true)
  (xs_NoStep_TooGreat:PySem.W.subIn (zx T K) (.ref c_NoStep) (.ref c_TooGreat)=some false)
  (xn_NoStep_TooGreat:c_NoStep≠c_TooGreat)
  (xs_NoStep_KnockError:PySem.W.subIn (zx T K) (.ref c_NoStep) (.ref c_KnockError)=some true)
  (xs_NoStep_NoBeat:PySem.W.subIn (zx T K) (.ref c_NoStep) (.ref c_NoBeat)=some false)
  (xn_NoStep_NoBeat:c_NoStep≠c_NoBeat)
  (xs_NoStep_NoNumber:PySem.W.subIn (zx T K) (.ref c_NoStep) (.ref c_NoNumber)=some false)
  (xn_NoStep_NoNumber:c_NoStep≠c_NoNumber)
  (xs_NoStep_NoLine:PySem.W.subIn (zx T K) (.ref c_NoStep) (.ref c_NoLine)=some false)
  (xn_NoStep_NoLine:c_NoStep≠c_NoLine)
  (xs_NoStep_NoStory:PySem.W.subIn (zx T K) (.ref c_NoStep) (.ref c_NoStory)=some false)
  (xn_NoStep_NoStory:c_NoStep≠c_NoStory)
  (xs_NoStep_NoText:PySem.W.subIn (zx T K) (.ref c_NoStep) (.ref c_NoText)=some false)
  (xn_NoStep_NoText:c_NoStep≠c_NoText)
  (xb_NoStep_ValueError:PySem.W.subIn (zx T K) (.ref c_NoStep) (.type "ValueError")=some true)
  (xb_NoStep_LookupError:PySem.W.subIn (zx T K) (.ref c_NoStep) (.type "LookupError")=some false)
  (xb_NoStep_TypeError:PySem.W.subIn (zx T K) (.ref c_NoStep) (.type "TypeError")=some false)
  (xb_NoStep_ArithmeticError:PySem.W.subIn (zx T K) (.ref c_NoStep) (.type "ArithmeticError")=some false)
  (xb_NoStep_RuntimeError:PySem.W.subIn (zx T K) (.ref c_NoStep) (.type "RuntimeError")=some false)
  {i_TooGreat:Addr} (xj_TooGreat:PySem.W.findIn K (.ref c_TooGreat) "__init__" = some (some (.ref i_TooGreat)))
  (xTxj_TooGreat:PySem.W.findIn (zx T K) (.ref c_TooGreat) "__init__" = some (some (.ref i_TooGreat)))
  (xe_TooGreat:zbr (zx T K) c_TooGreat [.type "ValueError",.type "Exception",.type "BaseException",.type "object"] "ValueError.__new__" i_TooGreat=true)
  (xu_TooGreat:PySem.W.findIn (zx T K) (.ref c_TooGreat) "__setattr__" = some (some (.builtin "object.__setattr__")))
  (xv_TooGreat_many:PySem.W.findIn (zx T K) (.ref c_TooGreat) "many" = some none)
  (xv_TooGreat_most:PySem.W.findIn (zx T K) (.ref c_TooGreat) "most" = some none)
  {xod_TooGreat xan_TooGreat:Option Addr}{xsl_TooGreat:Array (Option Value)}{xkV_TooGreat xdc_TooGreat xpm_TooGreat xcd_TooGreat xct_TooGreat:Value} (xl_TooGreat:K.lookup i_TooGreat=some ⟨.type "function",xod_TooGreat,.func (PySem.W.fnOf "__init__" "TooGreat.__init__" (zm (qo wj 0)) (zh (qo wj 0)) (zc (qo wj 0)) .none xkV_TooGreat xdc_TooGreat xpm_TooGreat xan_TooGreat xcd_TooGreat xct_TooGreat),xsl_TooGreat⟩)
  (xw_TooGreat:PySem.W.codeIn K xcd_TooGreat "TooGreat.__init__" = true)
  (xy_TooGreat:PySem.W.keepIn K (.ref i_TooGreat)=true)
  (xg_TooGreat:PySem.W.findIn (zx T K) (.ref c_TooGreat) "__getattribute__" = some (some (.builtin "BaseException.__getattribute__")))
  (xh_TooGreat:PySem.W.findIn (zx T K) (.ref c_TooGreat) "__getattr__" = some none)
  (xo_TooGreat:PySem.W.mroIn (zx T K) c_TooGreat (.type "BaseException")=some true)
  (xf_TooGreat:PySem.W.findIn (zx T K) (.ref c_TooGreat) "__class__" = some (some (.builtin "object.__class__")))
  (xm_TooGreat:PySem.W.mroIn (zx T K) c_TooGreat (.type "object")=some true)
  (xs_TooGreat_NoStep:PySem.W.subIn (zx T K) (.ref c_TooGreat) (.ref c_NoStep)=some false)
  (xn_TooGreat_NoStep:c_TooGreat≠c_NoStep)
  (xs_TooGreat_KnockError:PySem.W.subIn (zx T K) (.ref c_TooGreat) (.ref c_KnockError)=some true)
  (xs_TooGreat_NoBeat:PySem.W.subIn (zx T K) (.ref c_TooGreat) (.ref c_NoBeat)=some false)
  (xn_TooGreat_NoBeat:c_TooGreat≠c_NoBeat)
  (xs_TooGreat_NoNumber:PySem.W.subIn (zx T K) (.ref c_TooGreat) (.ref c_NoNumber)=some false)
  (xn_TooGreat_NoNumber:c_TooGreat≠c_NoNumber)
  (xs_TooGreat_NoLine:PySem.W.subIn (zx T K) (.ref c_TooGreat) (.ref c_NoLine)=some false)
  (xn_TooGreat_NoLine:c_TooGreat≠c_NoLine)
  (xs_TooGreat_NoStory:PySem.W.subIn (zx T K) (.ref c_TooGreat) (.ref c_NoStory)=some false)
  (xn_TooGreat_NoStory:c_TooGreat≠c_NoStory)
  (xs_TooGreat_NoText:PySem.W.subIn (zx T K) (.ref c_TooGreat) (.ref c_NoText)=some false)
  (xn_TooGreat_NoText:c_TooGreat≠c_NoText)
  (xb_TooGreat_ValueError:PySem.W.subIn (zx T K) (.ref c_TooGreat) (.type "ValueError")=some true)
  (xb_TooGreat_LookupError:PySem.W.subIn (zx T K) (.ref c_TooGreat) (.type "LookupError")=some false)
  (xb_TooGreat_TypeError:PySem.W.subIn (zx T K) (.ref c_TooGreat) (.type "TypeError")=some false)
  (xb_TooGreat_ArithmeticError:PySem.W.subIn (zx T K) (.ref c_TooGreat) (.type "ArithmeticError")=some false)
  (xb_TooGreat_RuntimeError:PySem.W.subIn (zx T K) (.ref c_TooGreat) (.type "RuntimeError")=some false)
  {c:Addr}{ocT:Obj} (hcd:cd8=.ref c) (lc:K.lookup c=some ocT) (hO:HdO ocT T) (hne:c≠T) (gT0:h.get? T=some zb3):∃fd:FuncData,(∀(s:Shared) (v:Value),BindsTo s fd ⟨[v],[]⟩ [("_law_script",v)])/\∃(c:Addr) (oc:Obj),K.lookup c=some oc/\HdO oc T/\c≠T/\∀base:Heap,(zx T K).In base->base.Ns mainGlobals mg->jk mg base->PySem.W.CodeHd base c T->FnOk l.prog w (zx T K) mg base CX0 9 fa fd ["_law_script"] (qp "best_order.<locals>.<lambda>" T (yf (zx T K) zc9)):=by
 have gT:mainGlobals≠T:=zop G gT0;obtain⟨fd,hb,hF⟩:=zuh (l:=l) (w:=w) (K:=zx T K) (c:=c) (T:=T) (zkg X) G hfa ((zt gT).trans a0) (yg X gT0 l0 nF) (z6 X gT0 c0) (z7 X gT0 l0) ((zt gT).trans a1) (yg X gT0 l1 nF) (z6 X gT0 c1) (z7 X gT0 l1) ((zt gT).trans a2) (yg X gT0 l2 nF) (z6 X gT0 c2) (z7 X gT0 l2) ((zt gT).trans a3) (yg X gT0 l3 nF) (z6 X gT0 c3) (z7 X gT0 l3) ((zt gT).trans a4) (yg X gT0 l4 nF) (z6 X gT0 c4) (z7 X gT0 l4) ((zt gT).trans a5) (yg X gT0 l5 nF) (z6 X gT0 c5) (z7 X gT0 l5) ((zt gT).trans a6) (yg X gT0 l6 nF) (z6 X gT0 c6) (z7 X gT0 l6) ((zt gT).trans a7) (yg X gT0 l7 nF) (z6 X gT0 c7) (z7 X gT0 l7) ((zt gT).trans a8) (yg X gT0 l8 nF) (z6 X gT0 c8) (z7 X gT0 l8) ((zt gT).trans a9) (yg X gT0 l9 nF) (z6 X gT0 c9) (z7 X gT0 l9) ((zt gT).trans a10) (yg X gT0 l10 nF) (z6 X gT0 c10) (z7 X gT0 l10) ((zt gT).trans a11) (yg X gT0 l11 nF) (z6 X gT0 c11) (z7 X gT0 l11) ((zt gT).trans a12) (yg X gT0 l12 nF) (z6 X gT0 c12) (z7 X gT0 l12) ((zt gT).trans a13) (yg X gT0 l13 nF) (z6 X gT0 c13) (z7 X gT0 l13) ((zt gT).trans a14) (yg X gT0 l14 nF) (z6 X gT0 c14) (z7 X gT0 l14) ((zt gT).trans a15) (yg X gT0 l15 nF) (z6 X gT0 c15) (z7 X gT0 l15) ((zt gT).trans a16) (yg X gT0 l16 nF) (z6 X gT0 c16) (z7 X gT0 l16) ((zt gT).trans a17) (yg X gT0 l17 nF) (z6 X gT0 c17) (z7 X gT0 l17) ((zt gT).trans a18) (yg X gT0 l18 nF) (z6 X gT0 c18) (z7 X gT0 l18) ((zt gT).trans a19) (yg X gT0 l19 nF) (z6 X gT0 c19) (z7 X gT0 l19) ((zt gT).trans a20) (yg X gT0 l20 nF) (z6 X gT0 c20) (z7 X gT0 l20) ((zt gT).trans a21) (yg X gT0 l21 nF) (z6 X gT0 c21) (z7 X gT0 l21) ((zt gT).trans a22) (yg X gT0 l22 nF) (z6 X gT0 c22) (z7 X gT0 l22) ((zt gT).trans a23) (yg X gT0 l23 nF) (z6 X gT0 c23) (z7 X gT0 l23) ((zt gT).trans a24) (yg X gT0 l24 nF) (z6 X gT0 c24) (z7 X gT0 l24) ((zt gT).trans a25) (yg X gT0 l25 nF) (z6 X gT0 c25) (z7 X gT0 l25) ((zt gT).trans a26) (yg X gT0 l26 nF) (z6 X gT0 c26) (z7 X gT0 l26) ((zt gT).trans a27) (yg X gT0 l27 nF) (z6 X gT0 c27) (z7 X gT0 l27) ((zt gT).trans z_len) ((zt gT).trans z_range) ((zt gT).trans z_enumerate) ((zt gT).trans z_sum) ((zt gT).trans z_min) ((zt gT).trans z_max) ((zt gT).trans z_repr) ((zt gT).trans z_isinstance) ((zt gT).trans z_all) ((zt gT).trans z_sorted) ((zt gT).trans z_tupleT) ((zt gT).trans z_intT) ((zt gT).trans z_listT) ((zt gT).trans z_strT) ((zt gT).trans z_boolT) ((zt gT).trans z_ValueError) ((zt gT).trans z_LookupError) ((zt gT).trans z_TypeError) ((zt gT).trans z_ArithmeticError) ((zt gT).trans z_RuntimeError) ((zt gT).trans y_MOST_ORDERED) ((zt gT).trans xa_NoStep) ((zt gT).trans xa_TooGreat) ((zt gT).trans xa_KnockError) ((zt gT).trans xa_NoBeat) ((zt gT).trans xa_NoNumber) ((zt gT).trans xa_NoLine) ((zt gT).trans xa_NoStory) ((zt gT).trans xa_NoText) xd_NoStep xt_NoStep xd_TooGreat xt_TooGreat xd_KnockError xt_KnockError xd_NoBeat xt_NoBeat xd_NoNumber xt_NoNumber xd_NoLine xt_NoLine xd_NoStory xt_NoStory xd_NoText xt_NoText xsp xtk xkb xe_NoStep xg_NoStep xh_NoStep xo_NoStep xf_NoStep xm_NoStep xs_NoStep_TooGreat xn_NoStep_TooGreat xs_NoStep_KnockError xs_NoStep_NoBeat xn_NoStep_NoBeat xs_NoStep_NoNumber xn_NoStep_NoNumber xs_NoStep_NoLine xn_NoStep_NoLine xs_NoStep_NoStory xn_NoStep_NoStory xs_NoStep_NoText xn_NoStep_NoText xb_NoStep_ValueError xb_NoStep_LookupError xb_NoStep_TypeError xb_NoStep_ArithmeticError xb_NoStep_RuntimeError xTxj_TooGreat xe_TooGreat xu_TooGreat xv_TooGreat_many xv_TooGreat_most (yg X gT0 xl_TooGreat nF) (z6 X gT0 xw_TooGreat) (z7 X gT0 xl_TooGreat) xg_TooGreat xh_TooGreat xo_TooGreat xf_TooGreat xm_TooGreat xs_TooGreat_NoStep xn_TooGreat_NoStep xs_TooGreat_KnockError xs_TooGreat_NoBeat xn_TooGreat_NoBeat xs_TooGreat_NoNumber xn_TooGreat_NoNumber xs_TooGreat_NoLine xn_TooGreat_NoLine xs_TooGreat_NoStory xn_TooGreat_NoStory xs_TooGreat_NoText xn_TooGreat_NoText xb_TooGreat_ValueError xb_TooGreat_LookupError xb_TooGreat_TypeError xb_TooGreat_ArithmeticError xb_TooGreat_RuntimeError hcd
 exact⟨fd,hb,c,ocT,lc,hO,hne,hF⟩
theorem walk{l:PySem.W.OpenLaw}{q:Program}{loose:List Str}{XP:(Str->Option Value)->Heap->Prop}{YP:World->Heap->Prop}{d:DefRec}{K:Params->PySem.W.Frag}{T:Addr}(hn:l.most=some 63)(hdf:d.params.defaults = [])
  (hY:∀(w:World) (h:Heap),YP w h->(K w.params).In h/\h.get? T=some zb3)
  (F:∀(w:World) (mg:Str->Option Value) (fa:Addr) (h:Heap),(K w.params).In h->h.get? T=some zb3->h.Ns mainGlobals mg->mg d.name=some (.ref fa) ->
   ∃fd:FuncData,(∀(s:Shared) (u:Value),BindsTo s fd ⟨[u],[]⟩ [("_law_script",u)])/\∃(c:Addr) (oc:Obj),(K w.params).lookup c=some oc/\HdO oc T/\c≠T /\
    ∀base:Heap,(zx T (K w.params)).In base->base.Ns mainGlobals mg->jk mg base->PySem.W.CodeHd base c T->FnOk l.prog w (zx T (K w.params)) mg base CX0 9 fa fd ["_law_script"] (qp "best_order.<locals>.<lambda>" T (yf (zx T (K w.params)) zc9))) :
  PySem.W.WalkO q loose XP YP l.row.toRowW d [] (λf vs=>PySem.call f vs) :=
 L2.walk_ofT (n:=63) (k:=9) (x := "_law_script") (q := "best_order.<locals>.<lambda>") (sp:=λw=>yf (zx T (K w.params)) zc9) hn (by decide) hdf ⟨rfl,by decide,by decide,rfl⟩ hY F (λ_ _ a ns hl hS=>⟨[.scr ns],λr=>r=.val (.bool true),.cons ⟨a,rfl,hS⟩ .nil,⟨ns,rfl,hl,rfl⟩,λv H' r _ rp e=>by subst e;cases rp;rfl⟩)
end My
namespace PySem.W.Fast
def tw15791378341167878888:=()
def tw8705759940304129105:=()
def tw13267966690270649961:=()
def tw13798659526702230750:=()
def tw10151234099445918333:=()
def tw15189263886534328504:=()
def tw9291543978796485518:=()
def tw13220984379905296021:=()
def tw5987927918408819241:=()
def tw15031967223681801177:=()
def tw15516533228838476791:=()
def tw1314438969211466367:=()
def tw11473229248908600952:=()
def tw14969255458456221749:=()
def tw4047078420067981218:=()
def tw4014798672027253424:=()
def tw14901641312991896072:=()
def tw1459193094363111351:=()
def tw1105930235774026282:=()
def tw15040524823521506511:=()
def tw6320158525361255982:=()
def tw18095005696165934720:=()
def tw11828113119447215849:=()
def tw18350242501023679306:=()
def tw9185528128740676643:=()
def tw2193801146607375689:=()
def tw8471722340773298028:=()
def tw9400463082948536905:=()
def tw2034347740976865652:=()
def tw15980057212921085997:=()
def tw11731883208227415650:=()
def tw15021708995659770261:=()
def tw14737661568685751222:=()
def tw13029831163919659704:=()
def tw492649516798725811:=()
def tw17538917906896907878:=()
def tw18232435988711466750:=()
def tw5048705212230340456:=()
def tw11707731067300354374:=()
def tw6691395777287115440:=()
def tw7871071199166598879:=()
def tw11148562081409998665:=()
def tw695763050810097303:=()
def tw17748416960743850221:=()
def tw17647461028231876378:=()
def tw441653704597070960:=()
def tw10891116516584263246:=()
def tw7161141469769118987:=()
def tw4940662702925171312:=()
def tw2123324468828860385:=()
def tw6829421547160305743:=()
def tw13037538155245209280:=()
def tw24673312932596125:=()
def tw14561105830234945013:=()
def tw13783057524236614024:=()
def tw3393113547733561218:=()
def tw17858782882389384916:=()
def tw10851735442368949118:=()
def tw9074491477872320681:=()
def tw17442223000290553365:=()
def tw17177526289337234980:=()
def tw8174195542187950350:=()
def tw14720738647334258176:=()
def tw8204095202727884140:=()
def tw18268942915256318840:=()
def tw578979426177796799:=()
def tw13837570587521042723:=()
def tw17390416326912609442:=()
def tw5502803131587755767:=()
def tw2191923535911319715:=()
def tw11727793914138449364:=()
def tw8503823917987924866:=()
def tw14357281318542399370:=()
def tw2457367236138671718:=()
def tw9436488018855979828:=()
def tw420504908570787172:=()
def tw14725234756544127669:=()
def tw2617752727738744059:=()
def tw10380064148211087556:=()
def tw11742373390157200818:=()
def tw1010793122882759618:=()
def tw5148987713673516151:=()
def tw17573436778740175121:=()
def tw8571719959774967920:=()
def tw8717859229518140340:=()
def tw10617941821923779802:=()
def tw11386159661646110422:=()
def tw11578264442551895636:=()
def tw822949875635009936:=()
def tw17724778405809568365:=()
def tw16147332473780120509:=()
def tw1203034763511756174:=()
def tw1264663910159152592:=()
def tw7167274928056549996:=()
def tw14426991015202792284:=()
def tw13727159355346754680:=()
def tw10418255669584901178:=()
def tw16000889109814001347:=()
def tw8242052894017320825:=()
def tw13053671953705241633:=()
def tw11082175952112555149:=()
def tw13859754503291485042:=()
def tw8124529861163934901:=()
def tw9361340477273059973:=()
def tw8010607171741113699:=()
def tw7751788412421313260:=()
def tw14200608521286502953:=()
def tw11581303854600136775:=()
def tw2700680449718277916:=()
def tw2520411185577755551:=()
def tw8973196510769885776:=()
def tw2174548753867488352:=()
def tw14926682234435322972:=()
def tw6367444857498096765:=()
def tw17621543484669934720:=()
def tw12505908756978572268:=()
def tw10429170014654975535:=()
def tw15880214951073174259:=()
def tw13862807467761175219:=()
def tw6114694248198197662:=()
def tw1179492434552472624:=()
def tw18363656823574799082:=()
def tw8443658824320013731:=()
def tw15496185453156618183:=()
def tw9337886995202334871:=()
def tw8240598716019703218:=()
def tw16967750084803355926:=()
def tw11774183337358241602:=()
def tw17886223741938178366:=()
def tw15682333622106271587:=()
def tw10030541723625694588:=()
def tw10386296067839688233:=()
def tw2886008031665520903:=()
def tw11719791235619599548:=()
def tw16046933719187815260:=()
def tw11276642983260287718:=()
def tw8401170803752022:=()
def tw15632353365006534139:=()
def tw14181397218554983164:=()
def tw6208101400946816379:=()
def tw3445692881343103043:=()
def tw13129574307144355743:=()
def tw1284675175553852755:=()
def tw1511531765214894889:=()
def tw16634242963923729315:=()
def tw15812276535787084363:=()
def tw3021771523253463511:=()
def tw1362825506390666816:=()
def tw6956351430119981839:=()
def tw18348080444638346016:=()
def tw8494976134584829594:=()
def tw17889522459243823104:=()
def tw7788326233337986704:=()
def tw14110763178925555949:=()
def tw17249051441363667939:=()
def tw12542623215470303422:=()
def tw13788045170996009546:=()
def tw5214018237461854514:=()
def tw1810842462256447787:=()
def tw15663613985434727993:=()
def tw1604327787413461662:=()
def tw16141700223224374569:=()
def tw7866349567413392122:=()
def tw154026252183073952:=()
def tw16688852995680856148:=()
def tw4264790926749328819:=()
def tw14755544589254082720:=()
def tw14610398025375242803:=()
def tw6518209564820233094:=()
def tw7354303871057969139:=()
def tw2176121803120031607:=()
def tw15146471849584432958:=()
def tw10345800370035368903:=()
def tw10788650295559664709:=()
def tw13713573193396514166:=()
def tw231077291463132354:=()
def tw15167842992355361563:=()
def tw10918893003033973266:=()
def tw14539544781244211169:=()
def tw5289079838181876025:=()
def tw10076799936155602660:=()
def tw18286847888359125861:=()
def tw16543872748105213340:=()
def tw9965941024165114420:=()
def tw6820904403999279471:=()
def tw5067880766975437502:=()
def tw15999480819726142621:=()
def tw8273342510731434541:=()
def tw10831237250998351277:=()
def tw9196292648872305786:=()
def tw7535066475109676655:=()
def tw1015701132210948199:=()
def tw15759357733086031181:=()
def tw17218761885719287861:=()
def tw16736775558907333328:=()
def tw8667889994626510530:=()
def tw10015415515716218020:=()
def tw7081241323584350536:=()
def tw9109876395084019433:=()
def tw16603332030719440412:=()
def tw7019533680608713333:=()
def tw15578878223038507583:=()
def tw3149224966962433909:=()
def tw1579002197376953144:=()
def tw9390277117736165678:=()
def tw8838050136156566229:=()
def tw12669672485323593575:=()
def tw3337350767724386060:=()
def tw6976477420471181604:=()
def tw448460423874276006:=()
def tw4444714008805802189:=()
def tw4970265710705838156:=()
def tw10861362268360000931:=()
def tw1893839045562448245:=()
def tw18020277207614814099:=()
def tw16025880164934903093:=()
def tw9153338452320979010:=()
def tw15443138549452000038:=()
def tw4036890733443401142:=()
def tw14147049829173088213:=()
def tw15823017370468360565:=()
def tw7615154331525643754:=()
def tw11349392738349900681:=()
def tw7484677004970103681:=()
def tw14863221800159727335:=()
def tw4342645694255414375:=()
def tw5012543868241459060:=()
def tw16188217029333458877:=()
def tw2757135071695487649:=()
def tw15660686460375291525:=()
def tw2674659714618248478:=()
def tw4566539342516302628:=()
def tw861113212612420532:=()
def tw12948848559023809092:=()
def tw3427770985435917753:=()
def tw1185519375241763590:=()
def tw10627733955619431662:=()
def tw1631512977171486379:=()
def tw17370462811485135304:=()
def tw15773777673368146637:=()
def tw1545678424169009931:=()
def tw12549117214583802508:=()
def tw16106238524465896060:=()
def tw3172400821740418496:=()
def tw4703782458432971628:=()
def tw10874787445156590276:=()
def tw14386387779237595453:=()
def tw8300255385775133668:=()
def tw16325319846947979648:=()
def tw5476604751513536155:=()
def tw3994881110829844707:=()
def tw9413202605447162696:=()
def tw3858669175017274272:=()
def tw14721983017703395631:=()
def tw2475920528197834981:=()
def tw10083603994786400569:=()
def tw3956429902329485295:=()
def tw15437124922809436546:=()
def tw4318373098611303895:=()
def tw15971189685022739272:=()
def tw4502162028481954490:=()
def tw5133048820683020306:=()
def tw6558369933629179435:=()
def tw1885277880484493341:=()
def tw17996869940673836135:=()
def tw7647167366680643707:=()
def tw4983023739435880908:=()
def tw14883152431093998012:=()
def tw1679573721359228594:=()
def tw13176863701020235452:=()
def tw9155910595158635689:=()
def tw5066815448410343618:=()
def tw18262870824087389478:=()
def tw3999826412364614027:=()
def tw2618749701471934133:=()
def tw1399130295725772535:=()
def tw11354210464767094563:=()
def tw864459018608108384:=()
def tw14209240247791252293:=()
def tw15114734351670217751:=()
def tw17123026200974649227:=()
def tw18260911767342299578:=()
def tw17367605594669247814:=()
def tw2574438544943381750:=()
def tw8108042535054098127:=()
def tw3958445993734498416:=()
def tw15908281828361976573:=()
def tw14003588830395083149:=()
def tw2039014071424377731:=()
def tw7166909147386790627:=()
def tw16162063912549770373:=()
def tw8786398417363969231:=()
def tw12329538910376400543:=()
def tw6482343855156805032:=()
def tw10817184282333585524:=()
def tw14521207249922981929:=()
def tw10136730021892614109:=()
end PySem.W.Fast
open PySem PySem.W PyProof.Rows
set_option maxRecDepth 100000 in
set_option maxHeartbeats 0 in
theorem PySem.Challenge.cw_knockpurse_k53_roads_in_other_orders_holds : PySem.Challenge.rw_knockpurse_k53_roads_in_other_orders.Holds := by
 w_on;o_law;k_head;(case hw=>w_witness2)
 k_fill
 refine My.walk (l:=PySem.Challenge.rw_knockpurse_k53_roads_in_other_orders) rfl rfl (λw h Y=>⟨PySem.W.km_in_of Y,PySem.W.km_tabs_of Y _ (.head _)⟩) ?F
 case F=>
  intro w mg fa h KX GT G hmg
  refine' My.all_mkT KX G hmg ?a0 ?l0 ?c0 ?k0 ?a1 ?l1 ?c1 ?k1 ?a2 ?l2 ?c2 ?k2 ?a3 ?l3 ?c3 ?k3 ?a4 ?l4 ?c4 ?k4 ?a5 ?l5 ?c5 ?k5 ?a6 ?l6 ?c6 ?k6 ?a7 ?l7 ?c7 ?k7 ?a8 ?l8 ?c8 ?k8 ?a9 ?l9 ?c9 ?k9 ?a10 ?l10 ?c10 ?k10 ?a11 ?l11 ?c11 ?k11 ?a12 ?l12 ?c12 ?k12 ?a13 ?l13 ?c13 ?k13 ?a14 ?l14 ?c14 ?k14 ?a15 ?l15 ?c15 ?k15 ?a16 ?l16 ?c16 ?k16 ?a17 ?l17 ?c17 ?k17 ?a18 ?l18 ?c18 ?k18 ?a19 ?l19 ?c19 ?k19 ?a20 ?l20 ?c20 ?k20 ?a21 ?l21 ?c21 ?k21 ?a22 ?l22 ?c22 ?k22 ?a23 ?l23 ?c23 ?k23 ?a24 ?l24 ?c24 ?k24 ?a25 ?l25 ?c25 ?k25 ?a26 ?l26 ?c26 ?k26 ?a27 ?l27 ?c27 ?k27 ?z_len ?z_range ?z_enumerate ?z_sum ?z_min ?z_max ?z_repr ?z_isinstance ?z_all ?z_sorted ?z_tupleT ?z_intT ?z_listT ?z_strT ?z_boolT ?z_ValueError ?z_LookupError ?z_TypeError ?z_ArithmeticError ?z_RuntimeError ?y_MOST_ORDERED ?xa_NoStep ?xa_TooGreat ?xa_KnockError ?xa_NoBeat ?xa_NoNumber ?xa_NoLine ?xa_NoStory ?xa_NoText ?xd_NoStep ?xt_NoStep ?xd_TooGreat ?xt_TooGreat ?xd_KnockError ?xt_KnockError ?xd_NoBeat ?xt_NoBeat ?xd_NoNumber ?xt_NoNumber ?xd_NoLine ?xt_NoLine ?xd_NoStory ?xt_NoStory ?xd_NoText ?xt_NoText ?xsp ?xtk ?xkb ?xe_NoStep ?xg_NoStep ?xh_NoStep ?xo_NoStep ?xf_NoStep ?xm_NoStep ?xs_NoStep_TooGreat ?xn_NoStep_TooGreat ?xs_NoStep_KnockError ?xs_NoStep_NoBeat ?xn_NoStep_NoBeat ?xs_NoStep_NoNumber ?xn_NoStep_NoNumber ?xs_NoStep_NoLine ?xn_NoStep_NoLine ?xs_NoStep_NoStory ?xn_NoStep_NoStory ?xs_NoStep_NoText ?xn_NoStep_NoText ?xb_NoStep_ValueError ?xb_NoStep_LookupError ?xb_NoStep_TypeError ?xb_NoStep_ArithmeticError ?xb_NoStep_RuntimeError ?xj_TooGreat ?xTxj_TooGreat ?xe_TooGreat ?xu_TooGreat ?xv_TooGreat_many ?xv_TooGreat_most ?xl_TooGreat ?xw_TooGreat ?xy_TooGreat ?xg_TooGreat ?xh_TooGreat ?xo_TooGreat ?xf_TooGreat ?xm_TooGreat ?xs_TooGreat_NoStep ?xn_TooGreat_NoStep ?xs_TooGreat_KnockError ?xs_TooGreat_NoBeat ?xn_TooGreat_NoBeat ?xs_TooGreat_NoNumber ?xn_TooGreat_NoNumber ?xs_TooGreat_NoLine ?xn_TooGreat_NoLine ?xs_TooGreat_NoStory ?xn_TooGreat_NoStory ?xs_TooGreat_NoText ?xn_TooGreat_NoText ?xb_TooGreat_ValueError ?xb_TooGreat_LookupError ?xb_TooGreat_TypeError ?xb_TooGreat_ArithmeticError ?xb_TooGreat_RuntimeError ?hcd ?lc ?hO ?hne GT
  (case a0=>k_is);(case l0=>k_is);(case c0=>k_is);(case k0=>k_is)
  (case a1=>k_is);(case l1=>k_is);(case c1=>k_is);(case k1=>k_is)
  (case a2=>k_is);(case l2=>k_is);(case c2=>k_is);(case k2=>k_is)
  (case a3=>k_is);(case l3=>k_is);(case c3=>k_is);(case k3=>k_is)
  (case a4=>k_is);(case l4=>k_is);(case c4=>k_is);(case k4=>k_is)
  (case a5=>k_is);(case l5=>k_is);(case c5=>k_is);(case k5=>k_is)
  (case a6=>k_is);(case l6=>k_is);(case c6=>k_is);(case k6=>k_is)
  (case a7=>k_is);(case l7=>k_is);(case c7=>k_is);(case k7=>k_is)
  (case a8=>k_is);(case l8=>k_is);(case c8=>k_is);(case k8=>k_is)
  (case a9=>k_is);(case l9=>k_is);(case c9=>k_is);(case k9=>k_is)
  (case a10=>k_is);(case l10=>k_is);(case c10=>k_is);(case k10=>k_is)
  (case a11=>k_is);(case l11=>k_is);(case c11=>k_is);(case k11=>k_is)
  (case a12=>k_is);(case l12=>k_is);(case c12=>k_is);(case k12=>k_is)
  (case a13=>k_is);(case l13=>k_is);(case c13=>k_is);(case k13=>k_is)
  (case a14=>k_is);(case l14=>k_is);(case c14=>k_is);(case k14=>k_is)
  (case a15=>k_is);(case l15=>k_is);(case c15=>k_is);(case k15=>k_is)
  (case a16=>k_is);(case l16=>k_is);(case c16=>k_is);(case k16=>k_is)
  (case a17=>k_is);(case l17=>k_is);(case c17=>k_is);(case k17=>k_is)
  (case a18=>k_is);(case l18=>k_is);(case c18=>k_is);(case k18=>k_is)
  (case a19=>k_is);(case l19=>k_is);(case c19=>k_is);(case k19=>k_is)
  (case a20=>k_is);(case l20=>k_is);(case c20=>k_is);(case k20=>k_is)
  (case a21=>k_is);(case l21=>k_is);(case c21=>k_is);(case k21=>k_is)
  (case a22=>k_is);(case l22=>k_is);(case c22=>k_is);(case k22=>k_is)
  (case a23=>k_is);(case l23=>k_is);(case c23=>k_is);(case k23=>k_is)
  (case a24=>k_is);(case l24=>k_is);(case c24=>k_is);(case k24=>k_is)
  (case a25=>k_is);(case l25=>k_is);(case c25=>k_is);(case k25=>k_is)
  (case a26=>k_is);(case l26=>k_is);(case c26=>k_is);(case k26=>k_is)
  (case a27=>k_is);(case l27=>k_is);(case c27=>k_is);(case k27=>k_is)
  (case z_len=>k_is)
  (case z_range=>k_is)
  (case z_enumerate=>k_is)
  (case z_sum=>k_is)
  (case z_min=>k_is)
  (case z_max=>k_is)
  (case z_repr=>k_is)
  (case z_isinstance=>k_is)
  (case z_all=>k_is)
  (case z_sorted=>k_is)
  (case z_tupleT=>k_is)
  (case z_intT=>k_is)
  (case z_listT=>k_is)
  (case z_strT=>k_is)
  (case z_boolT=>k_is)
  (case z_ValueError=>k_is)
  (case z_LookupError=>k_is)
  (case z_TypeError=>k_is)
  (case z_ArithmeticError=>k_is)
  (case z_RuntimeError=>k_is)
  (case y_MOST_ORDERED=>k_is)
  (case xa_NoStep=>k_is)
  (case xa_TooGreat=>k_is)
  (case xa_KnockError=>k_is)
  (case xa_NoBeat=>k_is)
  (case xa_NoNumber=>k_is)
  (case xa_NoLine=>k_is)
  (case xa_NoStory=>k_is)
  (case xa_NoText=>k_is)
  (case xd_NoStep=>kernel_rfl)
  (case xt_NoStep=>kernel_rfl)
  (case xd_TooGreat=>kernel_rfl)
  (case xt_TooGreat=>kernel_rfl)
  (case xd_KnockError=>kernel_rfl)
  (case xt_KnockError=>kernel_rfl)
  (case xd_NoBeat=>kernel_rfl)
  (case xt_NoBeat=>kernel_rfl)
  (case xd_NoNumber=>kernel_rfl)
  (case xt_NoNumber=>kernel_rfl)
  (case xd_NoLine=>kernel_rfl)
  (case xt_NoLine=>kernel_rfl)
  (case xd_NoStory=>kernel_rfl)
  (case xt_NoStory=>kernel_rfl)
  (case xd_NoText=>kernel_rfl)
  (case xt_NoText=>kernel_rfl)
  (case xsp=>kernel_rfl)
  (case xtk=>kernel_rfl)
  (case xkb=>kernel_rfl)
  (case xe_NoStep=>kernel_rfl)
  (case xg_NoStep=>kernel_rfl)
  (case xh_NoStep=>kernel_rfl)
  (case xo_NoStep=>kernel_rfl)
  (case xf_NoStep=>kernel_rfl)
  (case xm_NoStep=>kernel_rfl)
  (case xs_NoStep_TooGreat=>kernel_rfl)
  (case xn_NoStep_TooGreat=>decide)
  (case xs_NoStep_KnockError=>kernel_rfl)
  (case xs_NoStep_NoBeat=>kernel_rfl)
  (case xn_NoStep_NoBeat=>decide)
  (case xs_NoStep_NoNumber=>kernel_rfl)
  (case xn_NoStep_NoNumber=>decide)
  (case xs_NoStep_NoLine=>kernel_rfl)
  (case xn_NoStep_NoLine=>decide)
  (case xs_NoStep_NoStory=>kernel_rfl)
  (case xn_NoStep_NoStory=>decide)
  (case xs_NoStep_NoText=>kernel_rfl)
  (case xn_NoStep_NoText=>decide)
  (case xb_NoStep_ValueError=>kernel_rfl)
  (case xb_NoStep_LookupError=>kernel_rfl)
  (case xb_NoStep_TypeError=>kernel_rfl)
  (case xb_NoStep_ArithmeticError=>kernel_rfl)
  (case xb_NoStep_RuntimeError=>kernel_rfl)
  (case xj_TooGreat=>k_is)
  (case xTxj_TooGreat=>kernel_rfl)
  (case xe_TooGreat=>kernel_rfl)
  (case xu_TooGreat=>kernel_rfl)
  (case xv_TooGreat_many=>kernel_rfl)
  (case xv_TooGreat_most=>kernel_rfl)
  (case xl_TooGreat=>k_is)
  (case xw_TooGreat=>k_is)
  (case xy_TooGreat=>k_is)
  (case xg_TooGreat=>kernel_rfl)
  (case xh_TooGreat=>kernel_rfl)
  (case xo_TooGreat=>kernel_rfl)
  (case xf_TooGreat=>kernel_rfl)
  (case xm_TooGreat=>kernel_rfl)
  (case xs_TooGreat_NoStep=>kernel_rfl)
  (case xn_TooGreat_NoStep=>decide)
  (case xs_TooGreat_KnockError=>kernel_rfl)
  (case xs_TooGreat_NoBeat=>kernel_rfl)
  (case xn_TooGreat_NoBeat=>decide)
  (case xs_TooGreat_NoNumber=>kernel_rfl)
  (case xn_TooGreat_NoNumber=>decide)
  (case xs_TooGreat_NoLine=>kernel_rfl)
  (case xn_TooGreat_NoLine=>decide)
  (case xs_TooGreat_NoStory=>kernel_rfl)
  (case xn_TooGreat_NoStory=>decide)
  (case xs_TooGreat_NoText=>kernel_rfl)
  (case xn_TooGreat_NoText=>decide)
  (case xb_TooGreat_ValueError=>kernel_rfl)
  (case xb_TooGreat_LookupError=>kernel_rfl)
  (case xb_TooGreat_TypeError=>kernel_rfl)
  (case xb_TooGreat_ArithmeticError=>kernel_rfl)
  (case xb_TooGreat_RuntimeError=>kernel_rfl)
  (case hcd=>rfl)
  (case lc=>k_is)
  (case hO=>exact⟨_,_,_,_,_,_,_,_,rfl,rfl,rfl,rfl,rfl,rfl,rfl,rfl⟩)
  (case hne=>decide)
