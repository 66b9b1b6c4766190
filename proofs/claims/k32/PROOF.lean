import PyProof.Rows.All
import PyProof.StrReplace2
import PyProof.Rows.TupDisplay
import PyProof.SliceList
import PyProof.DictWalks
import PyProof.ListStr
import KE.KEqDict
import Wide.All
import OpenK.AllK
import Wide.FinOn
import Lean
import PyProof.EqAt
import PyProof.EqKinds
import PyProof.TupleCall
import PyProof.ListMulRoad
import PyProof.Lay0
import PyProof.Rows.EqDataRows
import PyProof.ReprRoads
import PyProof.Rows.MinMaxN
import PyProof.ReprLen
import PyProof.FitsInt
import PyProof.MinMaxWalk
import KE.KRevSl
import KE.KRevIter
import PyProof.ListRange
import PyProof.Sched
import PyProof.Rows.SortShellK
import PyProof.Rows.SortRunK
import PyProof.Rows.SortRuns
import PyProof.TupleOfSeq
import PyProof.RulesAs
import OpenK.KDescr
import OpenK.KOwn
import KE.KIsNot
import KE.KIsAll
import PyProof.Rows.SetFrom
import PyProof.WalksMore
import PyProof.CollectWalk
import KE.KLam
import KE.KMinKey
import KE.KSortKey
import KE.KDictList
import KE.KDictOf
import PyProof.Rows.Range3
import PyProof.FactsAll.range
import PyProof.Rows.StrLen
import PyProof.Rows.StrCase
import PyProof.StrBlock2
import PyProof.Rows.StrRules
import PyProof.Rows.RegReprOcc
import PyProof.AttrMissSeq
import PyProof.DictWalks
import KE.KEqDict
import PyProof.ExcInit
import PyProof.ExcClass3
import PyProof.InstStoreFacts
import PySem.Challenge.RW_knockpurse_k32_rows_of_deeds
set_option Elab.async false
set_option linter.all false
set_option maxRecDepth 100000
namespace L2
open PySem PySem.Spec PyProof.Rows
abbrev Key:=Sum Int Str
def zbq:Key->Value->Bool
 |.inl k,v=>Value.isInt k v
 |.inr x,v=>Value.isStrOf x v
def zrc(w:World):Key->Int
 |.inl k=>hashInt k
 |.inr x=>hashStr w x
theorem yb:∀{k:Key}{v:Value},zbq k v=true->(∃i t,k=Sum.inl i/\v=Value.int i t)\/(∃x t,k=Sum.inr x/\v=Value.str x t)
 |.inl i,v,h=>by
  obtain⟨t,e⟩:=Value.isInt_shape (k:=i) (v:=v) h;exact .inl ⟨i,t,rfl,e⟩
 |.inr x,v,h=>by
  obtain⟨t,e⟩:=Value.isStrOf_shape (x:=x) (v:=v) h;exact .inr ⟨x,t,rfl,e⟩
theorem zgp(i:Int)(t:Tok):zbq (.inl i) (.int i t)=true:=by simp[zbq,Value.isInt]
theorem zgq(x:Str)(t:Tok):zbq (.inr x) (.str x t)=true:=by simp[zbq,Value.isStrOf]
theorem zmv(a b:Int):decide ((Sum.inl a:Key)=Sum.inl b)=(a == b):=by
 by_cases e:a=b
 ·subst e;simp
 ·have h:¬ (Sum.inl a:Key)=Sum.inl b:=λq=>e (Sum.inl.inj q);rw[decide_eq_false h];exact(beq_eq_false_iff_ne.mpr e).symm
theorem zmw(a b:Str):decide ((Sum.inr a:Key)=Sum.inr b)=decide (a=b):=by
 by_cases e:a=b
 ·subst e;simp
 ·have h:¬ (Sum.inr a:Key)=Sum.inr b:=λq=>e (Sum.inr.inj q);rw[decide_eq_false h,decide_eq_false e]
theorem zmx(a:Int)(b:Str):decide ((Sum.inl a:Key)=Sum.inr b)=false:=decide_eq_false (λq=>nomatch q)
theorem zmy(a:Str)(b:Int):decide ((Sum.inr a:Key)=Sum.inl b)=false:=decide_eq_false (λq=>nomatch q)
def y8(prog:Program)(w:World):PySem.KeyKind prog w Key where
 is:=zbq
 hash:=zrc w
 inj:=λv a b ha hb=>by
  rcases yb ha with⟨i,t,rfl,rfl⟩ |⟨x,t,rfl,rfl⟩
  ·rcases yb hb with⟨j,u,rfl,e⟩ |⟨y,u,rfl,e⟩
   ·injection e with e1 _;rw[e1]
   ·exact nomatch e
  ·rcases yb hb with⟨j,u,rfl,e⟩ |⟨y,u,rfl,e⟩
   ·exact nomatch e
   ·injection e with e1 _;rw[e1]
 byValue:=λk v h=>by
  rcases yb h with⟨i,t,rfl,rfl⟩ |⟨x,t,rfl,rfl⟩ <;> rfl
 pyHash:=λhv h=>by
  rcases yb hv with⟨i,t,rfl,rfl⟩ |⟨x,t,rfl,rfl⟩
  ·exact wpAny_pyHash_int h
  ·exact wpAny_pyHash_str h
 eqBool:=λhu hv h=>by
  rcases yb hu with⟨i,t,rfl,rfl⟩ |⟨x,t,rfl,rfl⟩
  ·rcases yb hv with⟨j,u,rfl,rfl⟩ |⟨y,u,rfl,rfl⟩
   ·rw[zmv]at h;exact wpAny_eqBool_int h
   ·rw[zmx]at h;exact SeqAt.EqAt.int_str i t y u _ _ _ _ h
  ·rcases yb hv with⟨j,u,rfl,rfl⟩ |⟨y,u,rfl,rfl⟩
   ·rw[zmy]at h;exact SeqAt.EqAt.str_int x t j u _ _ _ _ h
   ·rw[zmw]at h;exact wpAny_eqBool_str h
 «strs»:=λk x t v h=>by
  rcases yb h with⟨i,u,rfl,e⟩ |⟨y,u,rfl,e⟩
  ·exact nomatch e
  ·injection e with e1 _
   subst e1
   cases v <;> rfl
theorem zc7(prog:Program)(w:World)(i:Int)(t:Tok):(y8 prog w).is (.inl i) (.int i t)=true:=zgp i t
theorem zc8(prog:Program)(w:World)(x:Str)(t:Tok):(y8 prog w).is (.inr x) (.str x t)=true:=zgq x t
inductive V where
 |non|bl (b:Bool)|int (i:Int)|str (x:Str)|byt (b:Array UInt8)|flt (b:UInt64)|ref (a:Addr)|ty (n:String)
 deriving DecidableEq
def RelV:V->Value->Prop
 |.non,u=>u=Value.none
 |.bl b,u=>u=Value.bool b
 |.int i,u=>∃t,u=Value.int i t
 |.str x,u=>∃t,u=Value.str x t
 |.byt b,u=>∃t,u=Value.bytes b t
 |.flt b,u=>∃t,u=Value.float b t
 |.ref a,u=>u=Value.ref a
 |.ty n,u=>u=Value.type n
abbrev Vals:List V->List Value->Prop:=Paired RelV
theorem Vals.length{xs:List V}{us:List Value}(r:Vals xs us):xs.length=us.length:=Paired.length r
theorem Vals.get:∀{xs:List V}{us:List Value}{i:Nat}{x:V},Vals xs us->xs[i]?=some x->∃u,us[i]?=some u/\RelV x u
 |_,_,_,_,.nil,e=>by simp at e
 |_,_,0,_,.cons r _,e=>by simp at e;subst e;exact⟨_,rfl,r⟩
 |_,_,i+1,x,.cons _ t,e=>by
  obtain⟨u,h1,h2⟩:=Vals.get (i:=i) (x:=x) t (by simpa using e);exact⟨u,by simpa using h1,h2⟩
theorem Vals.set{x:V}{u:Value}(r:RelV x u):∀{xs:List V}{us:List Value} (i:Nat),Vals xs us->Vals (xs.set i x) (us.set i u)
 |_,_,_,.nil=>.nil
 |_,_,0,.cons _ t=>.cons r t
 |_,_,i+1,.cons q t=>.cons q (Vals.set r i t)
theorem Vals.append:∀{xs ys:List V}{us ws:List Value},Vals xs us->Vals ys ws->Vals (xs++ys) (us++ws)
 |_,_,_,_,.nil,s=>s
 |_,_,_,_,.cons r t,s=>.cons r (Vals.append t s)
theorem Vals.take:∀{xs:List V}{us:List Value} (n:Nat),Vals xs us->Vals (xs.take n) (us.take n)
 |_,_,0,_=>.nil
 |_,_,_+1,.nil=>.nil
 |_,_,n+1,.cons r t=>.cons r (Vals.take n t)
theorem Vals.drop:∀{xs:List V}{us:List Value} (n:Nat),Vals xs us->Vals (xs.drop n) (us.drop n)
 |_,_,0,r=>r
 |_,_,_+1,.nil=>.nil
 |_,_,n+1,.cons _ t=>Vals.drop n t
def RelO:Option V->Option Value->Prop
 |some v,some u=>RelV v u
 |none,none=>True
 |_,_=>False
def KV{κ:Type}:List (κ×V)->List (κ×Value)->Prop:=Paired λ(p:κ×V) (q:κ×Value)=>p.1=q.1/\RelV p.2 q.2
def kV:Key->V
 |.inl i=>.int i
 |.inr x=>.str x
inductive HO where
  |lst (xs:List V)
  |tup (xs:List V)
  |dK (kvs:List (Key×V))|dT (kvs:List (List Key×V))
  |set (S:Int->Bool) (n:Nat)
  |ins (C dx:Addr) (fs:List (Str×V))
  |own (x:Addr)
  |xd (fs:List (Str×V))
  |met (f x:Addr)
  |rng (lo hi:Int)
  |frz (o:Obj) (u:HO)
  |tbl (ps:Array Value)
  |ext (φ:Heap->Prop)
abbrev Hp:=Addr->Option HO
def upd(H:Hp)(a:Addr)(o:HO):Hp:=λb=>if b=a then some o else H b
theorem ze{H:Hp}{a:Addr}{o:HO}:upd H a o a=some o:=by unfold upd;rw[if_pos rfl]
theorem zd{H:Hp}{a b:Addr}{o:HO}(h:b≠a):upd H a o b=H b:=by unfold upd;rw[if_neg h]
theorem zj{H:Hp}{a b:Addr}{o:HO}(h:H a=some o)(h':H b=none):a≠b:=by
 intro e;subst e;rw[h]at h';cases h'
def TupD(h:Heap)(a:Addr)(items:Array Value):Prop:=∃o,h.get? a=some o/\o.cls=.type "tuple" /\(∃n,o.data=.seq items n)/\o.dict=none
theorem TupD.isTup{h:Heap}{a:Addr}{items:Array Value}(x:TupD h a items):IsTup h a items:=let ⟨o,e,c,d,_⟩:=x;⟨o,e,c,d⟩
theorem TupD.lt{h:Heap}{a:Addr}{items:Array Value}(x:TupD h a items):a<h.objs.size:=x.isTup.lt
theorem TupD.new(h:Heap)(items:Array Value):TupD (h.push { cls:=.type "tuple",data:=.seq items }) h.objs.size items:=⟨_,Heap.get?_push_size _ rfl,rfl,⟨_,rfl⟩,rfl⟩
def zpr(oc:Obj)(q:Str):Prop:=∃vs t,oc.data=.fields vs/\vs[1]?=some (.str q t)
def zps(H:Hp)(h:Heap)(a:Addr)(lab:Array Value):Prop:=∃(ps:Array Value) (q:Str) (t:Tok),lab = #[.str q t]/\h.get? a=some { cls:=.none,data:=.fields ps }/\TriplesOk ps.toList /\
 ∀pos cv,codeAmong pos ps.toList=some cv->∃c' oc u,cv=.ref c'/\H c'=some (.frz oc u)/\zpr oc q
section
variable (P:Program)(w:World)
def ObjOk(H:Hp)(h:Heap)(a:Addr):HO->Prop
 |.lst xs=>xs.length<=sizeLine/\∃(its:List Value) (n:Nat),Vals xs its/\h.get? a=some { cls:=.type "list",data:=.seq its.toArray n }
 |.tup xs=>xs.length<=sizeLine/\∃its:List Value,Vals xs its/\TupD h a its.toArray
 |.dK kvs=>kvs.length<=sizeLine/\(a == sysModules)=false/\∃vs,KV kvs vs/\h.DictOf (y8 P w) a vs
 |.dT kvs=>kvs.length<=sizeLine/\(a == sysModules)=false/\∃xs:List (List Key×Addr×Value),
   Paired (λ(p:List Key×V) (q:List Key×Addr×Value)=>p.1=q.1/\H q.2.1=some (.tup (p.1.map kV))/\RelV p.2 q.2.2) kvs xs /\
   ∃o es ep,h.get? a=some o/\o.ExactDict/\o.data=.dict es ep/\es.toList=xs.map (entryOfKey (tupleKind (y8 P w)))/\(xs.map (·.1)).Nodup
 |.set S n=>h.SetOf (intKind P w) a S n
 |.ins C dx fs=>H dx=some (.own a)/\fs.length<=1000/\dx≠a/\h.get? a=some (PySem.W.instObj C dx) /\
   ∃mA,h.Ns1 dx mA/\(∀f,RelO (fs.lookup f) (mA f))/\PySem.Within mA (fs.map (·.1))
 |.own _=>∃o,h.get? a=some o
 |.xd fs=>∃mA,h.Ns1 a mA/\∀f,RelO (fs.lookup f) (mA f)
 |.rng lo hi=>∃t u v,h.get? a=some { cls:=.type "range",data:=.fields #[.int lo t,.int hi u,.int 1 v] }
 |.frz o u=>h.get? a=some o/\ObjOk H h a u
 |.tbl ps=>zps H h a ps
 |.met f x=>h.get? a=some (PySem.W.methodObj (.ref f) (.ref x))
 |.ext φ=>φ h/\(∃o,h.get? a=some o)/\∀h1 h2:Heap,φ h1->(∀o,h1.get? a=some o->h2.get? a=some o)->φ h2
def HOk(H:Hp)(h:Heap):Prop:=∀a o,H a=some o->ObjOk P w H h a o
end
section
variable {P:Program}{w:World}{H H':Hp}{h h':Heap}{a:Addr}{o:HO}
theorem ObjOk.lt(x:ObjOk P w H h a o):a<h.objs.size:=by
 cases o with
 |lst xs=>obtain⟨_,_,_,_,e⟩:=x;exact Heap.lt_size e
 |tup xs=>obtain⟨_,_,_,p⟩:=x;exact p.lt
 |dK kvs=>obtain⟨_,_,_,_,o,_,_,e,_⟩:=x;exact Heap.lt_size e
 |dT kvs=>obtain⟨_,_,_,_,o,_,_,e,_⟩:=x;exact Heap.lt_size e
 |set S n=>obtain⟨o,_,_,_,e,_⟩:=x;exact Heap.lt_size e
 |ins C dx fs=>obtain⟨_,_,_,e,_⟩:=x;exact Heap.lt_size e
 |own y=>obtain⟨_,e⟩:=x;exact Heap.lt_size e
 |xd fs=>obtain⟨_,⟨_,_,_,e,_⟩,_⟩:=x;exact Heap.lt_size e
 |rng lo hi=>obtain⟨_,_,_,e⟩:=x;exact Heap.lt_size e
 |frz ob u=>obtain⟨e,_⟩:=x;exact Heap.lt_size e
 |tbl ps=>obtain⟨_,_,_,_,e,_⟩:=x;exact Heap.lt_size e
 |met f y=>exact Heap.lt_size (show h.get? a=some _ from x)
 |ext φ=>obtain⟨_,⟨_,e⟩,_⟩:=x;exact Heap.lt_size e
theorem Paired.mapP{α β:Type}{F G:α->β->Prop}:∀{l₁:List α}{l₂:List β},Paired F l₁ l₂->(∀a b,F a b->G a b)->Paired G l₁ l₂
 |_,_,.nil,_=>.nil
 |_,_,.cons r t,f=>.cons (f _ _ r) (Paired.mapP t f)
theorem ObjOk.stay(x:ObjOk P w H h a o)(k:∀b u,(b=a\/H b=some (.own a))->h.get? b=some u->h'.get? b=some u)
  (ho:∀b,H b=some (.own a)->H' b=some (.own a)) (ht:∀b xs,H b=some (.tup xs)->H' b=some (.tup xs)) (hf:∀b o u,H b=some (.frz o u)->H' b=some (.frz o u):=by exact λ_ _ _ q=>q):ObjOk P w H' h' a o:=by
 induction o with
 |lst xs=>obtain⟨z,its,n,r,e⟩:=x;exact⟨z,its,n,r,k _ _ (.inl rfl) e⟩
 |tup xs=>obtain⟨z,its,r,ob,e,c⟩:=x;exact⟨z,its,r,ob,k _ _ (.inl rfl) e,c⟩
 |dK kvs=>obtain⟨z,y,vs,r,ob,es,ep,e,c⟩:=x;exact⟨z,y,vs,r,ob,es,ep,k _ _ (.inl rfl) e,c⟩
 |dT kvs=>
  obtain⟨z,y,xs,r,ob,es,ep,e,c⟩:=x;exact⟨z,y,xs,Paired.mapP r λp q z=>⟨z.1,ht _ _ z.2.1,z.2.2⟩,ob,es,ep,k _ _ (.inl rfl) e,c⟩
 |set S n=>obtain⟨ob,es,ep,t,e,c⟩:=x;exact⟨ob,es,ep,t,k _ _ (.inl rfl) e,c⟩
 |ins C dx fs=>
  obtain⟨d,z,ne,e,mA,⟨od,es,ep,e2,c⟩,r⟩:=x;exact⟨ho _ d,z,ne,k _ _ (.inl rfl) e,mA,⟨od,es,ep,k _ _ (.inr d) e2,c⟩,r⟩
 |own y=>obtain⟨ob,e⟩:=x;exact⟨ob,k _ _ (.inl rfl) e⟩
 |xd fs=>obtain⟨mA,⟨od,es,ep,e,c⟩,r⟩:=x;exact⟨mA,⟨od,es,ep,k _ _ (.inl rfl) e,c⟩,r⟩
 |rng lo hi=>obtain⟨t,u,v,e⟩:=x;exact⟨t,u,v,k _ _ (.inl rfl) e⟩
 |frz ob u ih=>obtain⟨e,q⟩:=x;exact⟨k _ _ (.inl rfl) e,ih q⟩
 |tbl ps=>
  obtain⟨rs,q,t,z,e,tr,r⟩:=x;exact⟨rs,q,t,z,k a _ (.inl rfl) e,tr,λpos cv y=>let ⟨c',oc,u,r1,r2,r3⟩:=r pos cv y;⟨c',oc,u,r1,hf _ _ _ r2,r3⟩⟩
 |met f y=>
  have e:h.get? a=some (PySem.W.methodObj (.ref f) (.ref y)):=x;show h'.get? a=some (PySem.W.methodObj (.ref f) (.ref y));exact k a _ (.inl rfl) e
 |ext φ=>obtain⟨p,⟨o,e⟩,st⟩:=x;exact⟨st _ _ p λo q=>k _ _ (.inl rfl) q,⟨o,k _ _ (.inl rfl) e⟩,st⟩
theorem HOk.lt(x:HOk P w H h)(e:H a=some o):a<h.objs.size:=(x a o e).lt
theorem HOk.fresh(x:HOk P w H h)(e:h.objs.size<=a):H a=none:=by
 cases q:H a with
 |none=>rfl
 |some u=>exact absurd (Nat.lt_of_lt_of_le (x.lt q) e) (Nat.lt_irrefl _)
theorem HOk.kept(x:HOk P w H h)(k:∀b u,h.get? b=some u->h'.get? b=some u):HOk P w H h':=λa o e=>
 (x a o e).stay (λb u _ q=>k b u q) (λ_ q=>q) λ_ _ q=>q
theorem HOk.laid(x:HOk P w H h)(k:∀b u,h.get? b=some u->h'.get? b=some u)(hp:h.objs.size<=a)(new:ObjOk P w (upd H a o) h' a o):HOk P w (upd H a o) h':=λb u e=>by
 have hn:=x.fresh hp
 by_cases hb:b=a
 ·subst hb;rw[ze]at e;cases e;exact new
 ·rw[zd hb]at e;exact(x b u e).stay (λc v _ q=>k c v q) (λc q=>by rw[zd (zj q hn)];exact q) (λc xs q=>by rw[zd (zj q hn)];exact q) λc _ _ q=>by rw[zd (zj q hn)];exact q
end
def Rd(H:Hp)(a:Addr)(u:HO):Prop:=H a=some u\/∃o,H a=some (.frz o u)
theorem Rd.of{H:Hp}{a:Addr}{u:HO}(h:H a=some u):Rd H a u:=.inl h
theorem Rd.ok{P:Program}{w:World}{H:Hp}{h:Heap}{a:Addr}{u:HO}(r:Rd H a u)(x:HOk P w H h):ObjOk P w H h a u:=by
 rcases r with r |⟨o,r⟩
 ·exact x a u r
 ·obtain⟨_,q⟩:=x a _ r;exact q
def Mut:Option HO->Prop
 |some (.lst _)=>True
 |some (.dK _)=>True
 |some (.dT _)=>True
 |some (.set _ _)=>True
 |some (.ins _ _ _)=>True
 |some (.ext _)=>True
 |_=>False
section
variable {P:Program}{w:World}{H:Hp}{h h':Heap}{x e:Addr}{o':HO}
theorem HOk.write(ok:HOk P w H h)(mu:Mut (H x))(he:e=x\/H e=some (.own x))(k:∀b u,b≠e->h.get? b=some u->h'.get? b=some u)(heo:∃u,h'.get? e=some u)
  (new:ObjOk P w (upd H x o') h' x o'):HOk P w (upd H x o') h':=λb u q=>by
 have nown:∀c y,H c=some (.own y)->c≠x:=λc y r z=>by subst z;rw[r]at mu;exact mu
 have ntup:∀c xs,H c=some (.tup xs)->c≠x:=λc xs r z=>by subst z;rw[r]at mu;exact mu
 have nfrz:∀c o u,H c=some (.frz o u)->c≠x:=λc o u r z=>by subst z;rw[r]at mu;exact mu
 by_cases hb:b=x
 ·subst hb;rw[ze]at q;cases q;exact new
 ·rw[zd hb]at q
  by_cases hbe:b=e
  ·have q':H b=some (.own x):=by
    rcases he with z|z
    ·exact absurd (hbe.trans z) hb
    ·rw[hbe];exact z
   rw[q]at q';cases q';obtain⟨v,hv⟩:=heo;exact⟨v,by rw[hbe];exact hv⟩
  ·refine(ok b u q).stay (λc v hc r=>k c v ?_ r) (λc r=>by rw[zd (nown c b r)];exact r) (λc xs r=>by rw[zd (ntup c xs r)];exact r) (λc o u r=>by rw[zd (nfrz c o u r)];exact r);rcases hc with rfl|hc
   ·exact hbe
   ·rintro rfl;rcases he with z|z
    ·exact nown c b hc z
    ·rw[hc]at z;cases z;exact hb rfl
end
structure Un(fs ex:List Addr)(H H':Hp)(h h':Heap):Prop where
 keep:∀b o,h.get? b=some o->H b=none->b∉fs->b∉ex->h'.get? b=some o
 slot:∀b o,h.get? b=some o->H b=none->b∈fs->b∉ex->∃sl,h'.get? b=some { o with slots:=sl }
 free:∀b o,h.get? b=some o->H b=none->b∉ex->H' b=none
 there:∀b o,h.get? b=some o->b∉ex->∃o',h'.get? b=some o'
 tups:∀b xs,H b=some (.tup xs)->H' b=some (.tup xs)
 frzs:∀b o u,H b=some (.frz o u)->H' b=some (.frz o u)
 tbls:∀b ps,H b=some (.tbl ps)->∃more,H' b=some (.tbl (ps++more))
section
variable {fs fs' ex ex':List Addr}{H H1 H2:Hp}{h h1 h2 h':Heap}{a x e:Addr}{o:HO}
theorem Un.any(u:Un fs ex H H1 h h1){b:Addr}{ob:Obj}(q:h.get? b=some ob)(n:H b=none)(hx:b∉ex):∃sl,h1.get? b=some { ob with slots:=sl }:=by
 by_cases hb:b∈fs
 ·exact u.slot b ob q n hb hx
 ·exact⟨ob.slots,u.keep b ob q n hb hx⟩
theorem Un.trans(a:Un fs ex H H1 h h1)(b:Un fs ex H1 H2 h1 h2):Un fs ex H H2 h h2 where
 keep:=λc ob q n hc hx=>b.keep c ob (a.keep c ob q n hc hx) (a.free c ob q n hx) hc hx
 slot:=λc ob q n hc hx=>by
  obtain⟨sl,e1⟩:=a.slot c ob q n hc hx;obtain⟨sl',e2⟩:=b.slot c _ e1 (a.free c ob q n hx) hc hx;exact⟨sl',e2⟩
 free:=λc ob q n hx=>by
  obtain⟨o',e1⟩:=a.there c ob q hx;exact b.free c o' e1 (a.free c ob q n hx) hx
 there:=λc ob q hx=>by
  obtain⟨o',e1⟩:=a.there c ob q hx;exact b.there c o' e1 hx
 tups:=λc xs q=>b.tups c xs (a.tups c xs q)
 frzs:=λc ob xs q=>b.frzs c ob xs (a.frzs c ob xs q)
 tbls:=λc ps q=>by
  obtain⟨m1,e1⟩:=a.tbls c ps q;obtain⟨m2,e2⟩:=b.tbls c _ e1;exact⟨m1++m2,by rw[e2,Array.append_assoc]⟩
theorem Un.kept(k:∀b u,h.get? b=some u->h'.get? b=some u):Un fs ex H H h h' :=
 ⟨λb ob q _ _ _=>k b ob q,λb ob q _ _ _=>⟨ob.slots,k b ob q⟩,λ_ _ _ n _=>n,λb ob q _=>⟨ob,k b ob q⟩,λ_ _ q=>q,λ_ _ _ q=>q,λ_ ps q=>⟨#[],by rw[q];simp⟩⟩
theorem Un.refl:Un fs ex H H h h:=Un.kept λ_ _ q=>q
theorem Un.laid(k:∀b u,h.get? b=some u->h'.get? b=some u)(hp:h.objs.size<=a)(hn:H a=none):Un fs ex H (upd H a o) h h' where
 keep:=λb u q _ _ _=>k b u q
 slot:=λb u q _ _ _=>⟨u.slots,k b u q⟩
 free:=λb u q n _=>by rw[zd (Nat.ne_of_lt (Nat.lt_of_lt_of_le (Heap.lt_size q) hp))];exact n
 there:=λb u q _=>⟨u,k b u q⟩
 tups:=λb xs q=>by rw[zd (zj q hn)];exact q
 frzs:=λb u xs q=>by rw[zd (zj q hn)];exact q
 tbls:=λb ps q=>⟨#[],by rw[zd (zj q hn),q];simp⟩
theorem Un.write(mu:Mut (H x))(he:e=x\/H e=some (.own x))(k:∀b u,b≠e->h.get? b=some u->h'.get? b=some u)(heo:∃u,h'.get? e=some u):Un fs ex H (upd H x o) h h':=by
 have hx:∀b,H b=none->b≠x:=λb n z=>by subst z;rw[n]at mu;exact mu
 have hb:∀b,H b=none->b≠e:=λb n z=>by
  subst z;rcases he with r|r
  ·exact hx b n r
  ·rw[n]at r;cases r
 have hm:∀b u,H b=some u->¬ Mut (some u)->b≠x:=λb u q nm z=>by subst z;rw[q]at mu;exact nm mu
 refine⟨λb u q n _ _=>k b u (hb b n) q,λb u q n _ _=>⟨u.slots,k b u (hb b n) q⟩,λb u q n _=>by rw[zd (hx b n)];exact n,λb u q _=>?_,
  λb xs q=>by rw[zd (hm b _ q λz=>z)];exact q,λb u xs q=>by rw[zd (hm b _ q λz=>z)];exact q,λb ps q=>⟨#[],by rw[zd (hm b _ q λz=>z),q];simp⟩⟩
 by_cases hbe:b=e
 ·subst hbe;exact heo
 ·exact⟨u,k b u hbe q⟩
theorem Un.mono(u:Un fs ex H H1 h h1)(hs:∀b∈fs,b∈fs')(hx:∀b∈ex,b∈ex'):Un fs' ex' H H1 h h1 :=
 ⟨λb ob q n hb he=>u.keep b ob q n (λz=>hb (hs b z)) λz=>he (hx b z),λ_ _ q n _ he=>u.any q n λz=>he (hx _ z),λb ob q n he=>u.free b ob q n λz=>he (hx b z),λb ob q he=>u.there b ob q λz=>he (hx b z),u.tups,u.frzs,u.tbls⟩
end
def trk(h:Heap)(H:Hp):List Addr:=(List.range h.objs.size).filter λa=>(H a).isSome
def zcd(h:Heap)(H:Hp):Heap:=PySem.W.hideAll h (trk h H)
theorem zgr(h:Heap)(H:Hp):(zcd h H).objs.size=h.objs.size:=PySem.W.hideAll_size _ _
theorem zhr{h:Heap}{H:Hp}{b:Addr}{o:Obj}(e:h.get? b=some o)(n:H b=none):(zcd h H).get? b=some o :=
 PySem.W.hideAll_get _ e λhm=>by
  have q:(H b).isSome=true:=(List.mem_filter.mp hm).2;rw[n]at q;simp at q
theorem zkn{h:Heap}{H:Hp}{b:Addr}{o:Obj}(e:(zcd h H).get? b=some o):h.get? b=some o/\H b=none:=by
 have e':h.get? b=some o:=PySem.W.of_hideAll (trk h H) e;refine⟨e',?_⟩
 cases q:H b with
 |none=>rfl
 |some x=>
  have hm:b∈trk h H:=List.mem_filter.mpr ⟨List.mem_range.mpr (Heap.lt_size e'),by simp[q]⟩;have z:(zcd h H).get? b=none:=PySem.W.hideAll_none (trk h H) hm;rw[z]at e;cases e
def zko(g h:Heap)(L:Addr):List (Addr×Obj):=(List.range h.objs.size).filterMap λa=>if a=L\/(g.get? a).isSome=true then none else (h.get? a).map λo=>(a,o)
def rest(g h:Heap)(L d:Addr):List (Addr×Obj):=(zko g h L).filter λp=>decide (p.1≠d)
structure Mod(K:PySem.W.Frag)(mg:Str->Option Value)(base:Heap):Prop where
 kin:K.In base
 glob:base.Ns mainGlobals mg
 blt:∃mb,base.Ns builtinsNs mb/\∀x:Str,x ≠ "__name__" -> mb x=bootBuiltins x
 nolimit:base.NoLimit
structure Cx where
 prog:Program
 w:World
 K:PySem.W.Frag
 mg:Str->Option Value
 base:Heap
 A:Around
 N:List Str
 s₀:Shared
 H₀:Hp
 env:Env
 outer:List Env
 stack:List Env
 ex:List Addr
 fn:Str->Bool
 calm:Bool
 pn:List (Addr×Obj)
 xe:Value->Shared->Prop
def frs(l:List Env):List Addr:=l.filterMap (·.frame)
abbrev Cx.fs(X:Cx):List Addr:=frs X.outer
def Vis(sc:Scope)(x:Str):Prop:=sc.names.lookup x=some .local\/sc.names.lookup x=some .cell\/sc.names.lookup x=some .free
def Loc(sc:Scope)(x:Str):Prop:=sc.names.lookup x=some .local\/sc.names.lookup x=some .cell
def zrd(env:Env)(h:Heap)(m:Str->Option Value)(x:Str)(u:Value):Prop :=
 (env.kindOf x=some .local/\m x=some u)\/((env.kindOf x=some .cell\/env.kindOf x=some .free)/\∃c,env.cells.lookup x=some c/\h.IsCell c (some u))
structure Cx.Ok(X:Cx):Prop where
 mod:Mod X.K X.mg X.base
 kind:X.env.scope.kind=.function
 glob:X.env.globals=mainGlobals
 blt:X.env.builtins=builtinsNs
 above:X.s₀.heap.objs.size<=X.env.locals
 inj:∀x y c,X.env.cells.lookup x=some c->X.env.cells.lookup y=some c->x=y
 has:∀x,(X.env.kindOf x=some .cell\/X.env.kindOf x=some .free)->∃c,X.env.cells.lookup x=some c
 cab:∀x c,X.fn x=true->X.env.cells.lookup x=some c->X.s₀.heap.objs.size<=c
 hd:X.calm=true->X.A.handled=none
 frames:X.A.frames=some X.stack
 stk:X.stack=X.outer\/(X.stack=X.env::X.outer/\X.env.frame=some X.env.locals)
 exf:∀b∈X.ex,b≠X.env.locals/\∀x c,X.env.cells.lookup x=some c->c≠b
 bs:∀b o,X.base.get? b=some o->X.s₀.heap.get? b=some o/\X.H₀ b=none
 bsz:X.base.objs.size<=X.s₀.heap.objs.size
 noex:∀b o,X.base.get? b=some o->b∉X.ex
 exfs:∀b∈X.ex,b∉X.fs
 funs:X.s₀.heap.FunFrames X.base X.outer
 frf:∀b∈X.fs,X.H₀ b=none
structure Inv(X:Cx)(pins:List (Addr×Obj))(σ:List (Option V))(H:Hp)(s:Shared):Prop where
 ok:X.Ok
 os:s.os=X.s₀.os
 bare:AllBare s.gens
 base:Un X.fs X.ex X.H₀ H X.s₀.heap s.heap
 loc:∃m,s.heap.Ns X.env.locals m/\∀(i:Nat) (x:Str) (v:V),X.N[i]?=some x->σ[i]?=some (some v)->Vis X.env.scope x->∃u,RelV v u/\zrd X.env s.heap m x u
 cell:∀x c,X.env.cells.lookup x=some c->∃v,s.heap.IsCell c v
 free:H X.env.locals=none
 freeC:∀x c,X.env.cells.lookup x=some c->H c=none
 pin:∀p∈X.pn++pins,s.heap.get? p.1=some p.2/\H p.1=none/\p.1≠X.env.locals/\p.1∉X.fs/\∀v,p.2.data ≠ .cell v
 hok:HOk X.prog X.w H s.heap
 len:σ.length=X.N.length
section
variable {X:Cx}{pins:List (Addr×Obj)}{σ:List (Option V)}{H H':Hp}{s:Shared}{h':Heap}
theorem Cx.Ok.nofr(ok:X.Ok){b:Addr}{o:Obj}(e:X.base.get? b=some o):b∉X.fs:=λhb=>by
 have:=(ok.funs.mem hb).1;rw[e]at this;cases this
theorem Inv.bs(I:Inv X pins σ H s):∀b o,X.base.get? b=some o->s.heap.get? b=some o/\H b=none:=λb o e=>
 ⟨I.base.keep b o (I.ok.bs b o e).1 (I.ok.bs b o e).2 (I.ok.nofr e) (I.ok.noex b o e),I.base.free b o (I.ok.bs b o e).1 (I.ok.bs b o e).2 (I.ok.noex b o e)⟩
theorem Inv.bk(I:Inv X pins σ H s):∀b o,X.base.get? b=some o->s.heap.get? b=some o:=λb o e=>(I.bs b o e).1
theorem Inv.mod(I:Inv X pins σ H s):Mod X.K X.mg X.base:=I.ok.mod
theorem Inv.kIn(I:Inv X pins σ H s):X.K.In s.heap:=I.ok.mod.kin.keeps I.bk
theorem Inv.fr(I:Inv X pins σ H s):∃m,Fr X.base X.env.locals s.heap m :=
 let ⟨m,hn,_⟩:=I.loc
 ⟨m,hn,I.bk,Nat.le_trans I.ok.bsz I.ok.above⟩
theorem Inv.lt(I:Inv X pins σ H s):X.env.locals<s.heap.objs.size:=let ⟨_,hn,_⟩:=I.loc;hn.lt
theorem Inv.sz(I:Inv X pins σ H s):X.s₀.heap.objs.size<=s.heap.objs.size:=Nat.le_trans I.ok.above (Nat.le_of_lt I.lt)
theorem Inv.nofs(I:Inv X pins σ H s){a:Addr}(h:s.heap.objs.size<=a):a∉X.fs:=λhb=>by
 obtain⟨_,o,ho,_⟩:=I.ok.funs.mem hb;exact absurd (Nat.lt_of_lt_of_le (Heap.lt_size ho) (Nat.le_trans I.sz h)) (Nat.lt_irrefl _)
theorem Inv.cne(I:Inv X pins σ H s):∀x c,X.env.cells.lookup x=some c->c≠X.env.locals:=λx c e z=>by
 obtain⟨v,o,ho,hd⟩:=I.cell x c e;obtain⟨m,⟨o',es,ep,ho',hd',_⟩,_⟩:=I.loc;rw[z,ho']at ho;cases ho;rw[hd']at hd;cases hd
theorem Inv.funs(I:Inv X pins σ H s):s.heap.FunFrames X.base X.outer:=by
 have all:∀(l:List Env),(∀b∈frs l,b∈X.fs)->X.s₀.heap.FunFrames X.base l->s.heap.FunFrames X.base l:=by
  intro l
  induction l with
  |nil=>intro _ _;trivial
  |cons env r ih=>
   intro hs hl;obtain⟨hk,⟨L,o,hf,hn,ho,hd⟩,hr⟩:=hl;have hL:L∈X.fs:=hs L (by unfold frs;rw[List.filterMap_cons,hf];exact List.mem_cons_self);obtain⟨sl,e⟩:=I.base.slot L o ho (I.ok.frf L hL) hL λz=>I.ok.exfs L z hL;exact⟨hk,⟨L,_,hf,hn,e,hd⟩,ih (λb hb=>hs b (by unfold frs;rw[List.filterMap_cons,hf];exact List.mem_cons_of_mem _ hb)) hr⟩
 exact all X.outer (λ_ hb=>hb) I.ok.funs
theorem Inv.stack(I:Inv X pins σ H s):s.heap.FunFrames X.base X.stack:=by
 rcases I.ok.stk with e |⟨e,hf⟩
 ·rw[e];exact I.funs
 ·rw[e];obtain⟨m,hn,_⟩:=I.loc;refine .cons (by rw[I.ok.kind];decide) hf hn ?_ I.funs;exact Heap.get?_none_of_le (Nat.le_trans I.ok.bsz I.ok.above)
theorem Inv.stkSub(I:Inv X pins σ H s):∀b∈frs X.stack,b∈X.env.locals::X.fs:=λb hb=>by
 rcases I.ok.stk with e |⟨e,hf⟩
 ·rw[e]at hb;exact List.mem_cons_of_mem _ hb
 ·rw[e]at hb;unfold frs at hb;rw[List.filterMap_cons,hf]at hb;exact hb
theorem Inv.stkFree(I:Inv X pins σ H s):∀b∈frs X.stack,H b=none:=λb hb=>by
 rcases List.mem_cons.mp (I.stkSub b hb) with e|hb
 ·rw[e];exact I.free
 ·obtain⟨_,o,ho,_⟩:=I.ok.funs.mem hb;exact I.base.free b o ho (I.ok.frf b hb) λz=>I.ok.exfs b z hb
theorem Inv.step{g':Array GenState}{t':Nat}{d':Drawn}{ch:List Addr}(I:Inv X pins σ H s)
  (hch:∀b∈ch,(b∈X.ex\/X.s₀.heap.objs.size<=b)/\b≠X.env.locals/\(∀x c,X.env.cells.lookup x=some c->c≠b)/\∀p∈X.pn++pins,p.1≠b)
  (keep:∀b o,b≠X.env.locals->b∉X.fs->b∉ch->s.heap.get? b=some o->H b=none->h'.get? b=some o)
  (slot:∀b o,b≠X.env.locals->b∈X.fs->b∉ch->s.heap.get? b=some o->H b=none->∃sl,h'.get? b=some { o with slots:=sl }) (free:∀b o,b∉ch->s.heap.get? b=some o->H b=none->H' b=none)
  (there:∀b o,b∉ch->s.heap.get? b=some o->∃o',h'.get? b=some o')
  (tups:∀b xs,H b=some (.tup xs)->H' b=some (.tup xs)) (frzs:∀b o u,H b=some (.frz o u)->H' b=some (.frz o u)) (tbls:∀b ps,H b=some (.tbl ps)->∃more,H' b=some (.tbl (ps++more)))
  (ns:∀m,s.heap.Ns X.env.locals m->h'.Ns X.env.locals m) (hok:HOk X.prog X.w H' h') (hg:AllBare g') :
  Inv X pins σ H' { s with heap:=h',gens:=g',drawn:=d',toks:=t' }:=by
 have neL:∀b o,X.s₀.heap.get? b=some o->b≠X.env.locals:=λb o e=>Nat.ne_of_lt (Nat.lt_of_lt_of_le (Heap.lt_size e) I.ok.above);have neC:∀b o,X.s₀.heap.get? b=some o->b∉X.ex->b∉ch:=λb o e hx hb=>by
  rcases (hch b hb).1 with z|z
  ·exact hx z
  ·exact absurd (Nat.lt_of_lt_of_le (Heap.lt_size e) z) (Nat.lt_irrefl _)
 have cellK:∀x c,X.env.cells.lookup x=some c->∀v,s.heap.IsCell c v->h'.IsCell c v:=λx c e v ⟨o,ho,hd⟩=>by
  have nch:c∉ch:=λz=>(hch c z).2.2.1 x c e rfl
  by_cases hc:c∈X.fs
  ·obtain⟨sl,q⟩:=slot c o (I.cne x c e) hc nch ho (I.freeC x c e);exact⟨_,q,hd⟩
  ·exact⟨o,keep c o (I.cne x c e) hc nch ho (I.freeC x c e),hd⟩
 refine⟨I.ok,I.os,hg,⟨λb o e n hb hx=>?_,λb o e n hb hx=>?_,λb o e n hx=>?_,λb o e hx=>?_,λb xs e=>tups b xs (I.base.tups b xs e),λb o xs e=>frzs b o xs (I.base.frzs b o xs e),λb ps e=>?_⟩,?_,λx c e=>?_,?_,λx c e=>?_,λp hp=>?_,hok,I.len⟩
 ·exact keep b o (neL b o e) hb (neC b o e hx) (I.base.keep b o e n hb hx) (I.base.free b o e n hx)
 ·obtain⟨sl,e1⟩:=I.base.slot b o e n hb hx;obtain⟨sl',e2⟩:=slot b _ (neL b o e) hb (neC b o e hx) e1 (I.base.free b o e n hx);exact⟨sl',e2⟩
 ·obtain⟨o',e1⟩:=I.base.there b o e hx;exact free b o' (neC b o e hx) e1 (I.base.free b o e n hx)
 ·obtain⟨o',e1⟩:=I.base.there b o e hx;exact there b o' (neC b o e hx) e1
 ·obtain⟨m1,e1⟩:=I.base.tbls b ps e;obtain⟨m2,e2⟩:=tbls b _ e1;exact⟨m1++m2,by rw[e2,Array.append_assoc]⟩
 ·obtain⟨m,hn,hl⟩:=I.loc;refine⟨m,ns m hn,λi x v e1 e2 e3=>?_⟩;obtain⟨u,r,l⟩:=hl i x v e1 e2 e3;refine⟨u,r,?_⟩;rcases l with l |⟨k,c,e,z⟩
  ·exact .inl l
  ·exact .inr ⟨k,c,e,cellK x c e _ z⟩
 ·obtain⟨v,z⟩:=I.cell x c e;exact⟨v,cellK x c e v z⟩
 ·obtain⟨m,⟨o,_,_,ho,_⟩,_⟩:=I.loc;exact free _ o (λz=>(hch _ z).2.1 rfl) ho I.free
 ·obtain⟨v,o,ho,hd⟩:=I.cell x c e;exact free c o (λz=>(hch c z).2.2.1 x c e rfl) ho (I.freeC x c e)
 ·obtain⟨e,n,ne,nf,d⟩:=I.pin p hp;have nch:p.1∉ch:=λz=>(hch p.1 z).2.2.2 p hp rfl;exact⟨keep p.1 p.2 ne nf nch e n,free p.1 p.2 nch e n,ne,nf,d⟩
theorem Inv.un{t':Nat}(I:Inv X pins σ H s)(u:Un X.fs [] H H' s.heap h')(hok:HOk X.prog X.w H' h'):Inv X pins σ H' { s with heap:=h',toks:=t' }:=by
 obtain⟨m,⟨o,es,ep,ho,r⟩,_⟩:=id I.loc;obtain⟨sl,hL⟩:=u.any ho I.free (by simp);exact I.step (g':=s.gens) (d':=s.drawn) (ch:=[]) (λ_ z=>nomatch z) (λb o _ hb _ e n=>u.keep b o e n hb (by simp)) (λb o _ hb _ e n=>u.slot b o e n hb (by simp)) (λb o _ e n=>u.free b o e n (by simp)) (λb o _ e=>u.there b o e (by simp)) u.tups u.frzs u.tbls (λm' hm=>by
  obtain⟨o',es',ep',ho',r'⟩:=hm;rw[ho]at ho';cases ho';exact⟨_,es',ep',hL,r'⟩) hok I.bare
theorem Inv.call{g':Array GenState}{t':Nat}{d':Drawn}{ch:List Addr}(I:Inv X pins σ H s)(u:Un (frs X.stack) ch H H' s.heap h')(hok:HOk X.prog X.w H' h')(hg:AllBare g')
  (hch:∀b∈ch,(b∈X.ex\/X.s₀.heap.objs.size<=b)/\b≠X.env.locals/\(∀x c,X.env.cells.lookup x=some c->c≠b)/\∀p∈X.pn++pins,p.1≠b) :
  Inv X pins σ H' { s with heap:=h',gens:=g',drawn:=d',toks:=t' }:=by
 obtain⟨m,⟨o,es,ep,ho,r⟩,_⟩:=id I.loc;obtain⟨sl,hL⟩:=u.any ho I.free λz=>(hch _ z).2.1 rfl;exact I.step (ch:=ch) hch (λb o hL hb hc e n=>u.keep b o e n (λz=>(List.mem_cons.mp (I.stkSub b z)).elim hL hb) hc) (λb o _ _ hc e n=>u.any e n hc) (λb o hc e n=>u.free b o e n hc) (λb o hc e=>u.there b o e hc) u.tups u.frzs u.tbls (λm' hm=>by
  obtain⟨o',es',ep',ho',r'⟩:=hm;rw[ho]at ho';cases ho';exact⟨_,es',ep',hL,r'⟩) hok hg
theorem Inv.turned{t':Nat}{it:Addr}(I:Inv X pins σ H s)(k:∀b o,b≠it->s.heap.get? b=some o->h'.get? b=some o)(hn:H it=none)(hL:it≠X.env.locals)
  (h1:it∈X.ex\/X.s₀.heap.objs.size<=it) (h2:∀x c,X.env.cells.lookup x=some c->c≠it) (h3:∀p∈X.pn++pins,p.1≠it):Inv X pins σ H { s with heap:=h',toks:=t' }:=by
 have nit:∀b u,H b=some u->b≠it:=λb u e z=>by rw[z,hn]at e;cases e
 refine I.step (g':=s.gens) (d':=s.drawn) (ch:=[it]) (λb hb=>?_) (λb o _ _ hc e _=>k b o (λz=>hc (by simp[z])) e) (λb o _ _ hc e _=>⟨o.slots,k b o (λz=>hc (by simp[z])) e⟩) (λ_ _ _ _ n=>n)
  (λb o hc e=>⟨o,k b o (λz=>hc (by simp[z])) e⟩) (λ_ _ e=>e) (λ_ _ _ e=>e) (λb ps e=>⟨#[],by rw[e];simp⟩) (λm hm=>?_) (λb u e=>?_) I.bare
 ·have e:b=it:=by simpa using hb
  subst e;exact⟨h1,hL,h2,h3⟩
 ·obtain⟨o,es,ep,ho,r⟩:=hm;exact⟨o,es,ep,k _ o (Ne.symm hL) ho,r⟩
 ·refine(I.hok b u e).stay (λc v hc q=>k c v ?_ q) (λ_ q=>q) λ_ _ q=>q;rcases hc with z|z
  ·rw[z];exact nit b u e
  ·exact nit c _ z
theorem Inv.tok(I:Inv X pins σ H s)(t:Nat):Inv X pins σ H { s with toks:=t }:=I.un (h':=s.heap) (t':=t) Un.refl I.hok
theorem Inv.kept{t':Nat}(I:Inv X pins σ H s)(k:∀b u,s.heap.get? b=some u->h'.get? b=some u):Inv X pins σ H { s with heap:=h',toks:=t' }:=I.un (Un.kept k) (I.hok.kept k)
theorem Inv.laid{a:Addr}{o:HO}{t':Nat}(I:Inv X pins σ H s)(k:∀b u,s.heap.get? b=some u->h'.get? b=some u)(hp:s.heap.objs.size<=a)(new:ObjOk X.prog X.w (upd H a o) h' a o):
  Inv X pins σ (upd H a o) { s with heap:=h',toks:=t' }:=I.un (Un.laid k hp (I.hok.fresh hp)) (I.hok.laid k hp new)
theorem Inv.write{x e:Addr}{o:HO}{t':Nat}(I:Inv X pins σ H s)(mu:Mut (H x))(he:e=x\/H e=some (.own x))(k:∀b u,b≠e->s.heap.get? b=some u->h'.get? b=some u)(heo:∃u,h'.get? e=some u)
  (new:ObjOk X.prog X.w (upd H x o) h' x o):Inv X pins σ (upd H x o) { s with heap:=h',toks:=t' }:=I.un (Un.write mu he k heo) (I.hok.write mu he k heo new)
theorem Inv.pins_of{pins':List (Addr×Obj)}(I:Inv X pins σ H s)(h:∀p∈pins',s.heap.get? p.1=some p.2/\H p.1=none/\p.1≠X.env.locals/\p.1∉X.fs/\∀v,p.2.data ≠ .cell v):Inv X pins' σ H s :=
 ⟨I.ok,I.os,I.bare,I.base,I.loc,I.cell,I.free,I.freeC,λp hp=>(List.mem_append.mp hp).elim (λz=>I.pin p (List.mem_append_left _ z)) (h p),I.hok,I.len⟩
theorem zc9{N:List Str}(hN:N.Nodup){i j:Nat}{x:Str}(a:N[i]?=some x)(b:N[j]?=some x):i=j:=by
 obtain⟨h1,e1⟩:=List.getElem?_eq_some_iff.mp a;obtain⟨h2,e2⟩:=List.getElem?_eq_some_iff.mp b;exact(List.getElem_inj hN).mp (e1.trans e2.symm)
theorem zbr{M:Model}{A:Around}{E:Value->Shared->Prop}{i:Nat}{x:Str}{v:V}{u:Value}{Q:Unit->Shared->Prop}(I:Inv X pins σ H s)(hN:X.N.Nodup)(hi:X.N[i]?=some x)(hx:Loc X.env.scope x)(r:RelV v u)
  (h:∀s',Inv X pins (σ.set i (some v)) H s'->(∃a,Heap.SameBut a s.heap s'.heap/\(a=X.env.locals\/X.env.cells.lookup x=some a))->Q () s') (hf:X.fn x=true\/X.env.scope.names.lookup x=some .local:=by first|exact .inl rfl|exact .inr rfl|assumption):wpAny M A (storeName X.env x u) Q E s:=by
 obtain⟨m,hn,hl⟩:=id I.loc;have hcls:(X.env.scope.kind == .class ||(X.env.scope.kind == .module && X.env.locals != X.env.globals))=false:=by rw[I.ok.kind];rfl
 have hiσ:i<σ.length:=by rw[I.len];exact(List.getElem?_eq_some_iff.mp hi).1
 have cne:=I.cne;have tracked:∀{a:Addr}{h':Heap},(∃o,s.heap.get? a=some o/\H a=none)->Heap.SameBut a s.heap h'->HOk X.prog X.w H h':=λ{a h'} ha hs b ob e=>by
  obtain⟨_,_,hfree⟩:=ha;refine(I.hok b ob e).stay (λc w' hc q=>(hs.2 c ?_).trans q) (λ_ q=>q) λ_ _ q=>q;rintro rfl;rcases hc with rfl|hc
  ·rw[hfree]at e;cases e
  ·rw[hfree]at hc;cases hc
 rcases hx with hk|hk
 ·refine wpAny_storeName_local hk hn (λh' hn' hs=>?_) hcls;obtain⟨oL,_,_,hoL,_⟩:=id hn;refine h _ ⟨I.ok,I.os,I.bare,⟨λb o e n hb hx=>?_,λb o e n hb hx=>?_,I.base.free,λb o e hx=>?_,I.base.tups,I.base.frzs,I.base.tbls⟩,⟨_,hn',λj y v' e1 e2 e3=>?_⟩,λy c e=>?_,I.free,I.freeC,λp hp=>?_,tracked ⟨oL,hoL,I.free⟩ hs,by simpa using I.len⟩ ⟨_,hs,.inl rfl⟩
  ·exact(hs.2 b (Nat.ne_of_lt (Nat.lt_of_lt_of_le (Heap.lt_size e) I.ok.above))).trans (I.base.keep b o e n hb hx)
  ·obtain⟨sl,e1⟩:=I.base.slot b o e n hb hx;exact⟨sl,(hs.2 b (Nat.ne_of_lt (Nat.lt_of_lt_of_le (Heap.lt_size e) I.ok.above))).trans e1⟩
  ·obtain⟨o',e1⟩:=I.base.there b o e hx;exact⟨o',(hs.2 b (Nat.ne_of_lt (Nat.lt_of_lt_of_le (Heap.lt_size e) I.ok.above))).trans e1⟩
  ·by_cases hj:j=i
   ·subst hj;rw[hi]at e1;cases e1;rw[List.getElem?_set_self hiσ]at e2
    cases e2;exact⟨u,r,.inl ⟨hk,by simp⟩⟩
   ·rw[List.getElem?_set_ne (Ne.symm hj)]at e2;obtain⟨u',r',q⟩:=hl j y v' e1 e2 e3;refine⟨u',r',?_⟩;rcases q with⟨k,e⟩ |⟨k,c,e,z⟩
    ·refine .inl ⟨k,?_⟩;have:y≠x:=λe=>hj (zc9 hN e1 (e ▸ hi));simp[this,e]
    ·exact .inr ⟨k,c,e,z.sameBut hs (cne y c e)⟩
  ·obtain⟨w',z⟩:=I.cell y c e;exact⟨w',z.sameBut hs (cne y c e)⟩
  ·obtain⟨e,n,ne,nf,d⟩:=I.pin p hp;exact⟨(hs.2 p.1 ne).trans e,n,ne,nf,d⟩
 ·have hfn:X.fn x=true:=by
   rcases hf with z|z
   ·exact z
   ·rw[z]at hk;cases hk
  obtain⟨c,hc⟩:=I.ok.has x (.inl hk);obtain⟨w',z⟩:=I.cell x c hc;refine wpAny_storeName_cell I.ok.kind hk hc z (λh' hc' hs=>?_);obtain⟨oc,hoc,hocd⟩:=id z;refine h { s with heap:=h' } ⟨I.ok,I.os,I.bare,⟨λb o e n hb hx=>?_,λb o e n hb hx=>?_,I.base.free,λb o e hx=>?_,I.base.tups,I.base.frzs,I.base.tbls⟩,⟨m,hn.sameBut hs (Ne.symm (cne x c hc)),λj y v' e1 e2 e3=>?_⟩,λy c' e=>?_,I.free,I.freeC,λp hp=>?_,tracked ⟨oc,hoc,I.freeC x c hc⟩ hs,by simpa using I.len⟩ ⟨c,hs,.inr hc⟩
  ·exact(hs.2 b (Nat.ne_of_lt (Nat.lt_of_lt_of_le (Heap.lt_size e) (I.ok.cab x c hfn hc)))).trans (I.base.keep b o e n hb hx)
  ·obtain⟨sl,e1⟩:=I.base.slot b o e n hb hx;exact⟨sl,(hs.2 b (Nat.ne_of_lt (Nat.lt_of_lt_of_le (Heap.lt_size e) (I.ok.cab x c hfn hc)))).trans e1⟩
  ·obtain⟨o',e1⟩:=I.base.there b o e hx;exact⟨o',(hs.2 b (Nat.ne_of_lt (Nat.lt_of_lt_of_le (Heap.lt_size e) (I.ok.cab x c hfn hc)))).trans e1⟩
  ·by_cases hj:j=i
   ·subst hj;rw[hi]at e1;cases e1;rw[List.getElem?_set_self hiσ]at e2
    cases e2;exact⟨u,r,.inr ⟨.inl hk,c,hc,hc'⟩⟩
   ·rw[List.getElem?_set_ne (Ne.symm hj)]at e2;obtain⟨u',r',q⟩:=hl j y v' e1 e2 e3;refine⟨u',r',?_⟩;rcases q with q |⟨k,c',e,z'⟩
    ·exact .inl q
    ·refine .inr ⟨k,c',e,z'.sameBut hs ?_⟩;rintro rfl;exact hj (zc9 hN e1 (I.ok.inj _ _ _ e hc ▸ hi))
  ·by_cases hcc:c'=c
   ·subst hcc;exact⟨_,hc'⟩
   ·obtain⟨w2,z2⟩:=I.cell y c' e;exact⟨w2,z2.sameBut hs hcc⟩
  ·obtain⟨e,n,ne,nf,d⟩:=I.pin p hp;refine⟨(hs.2 p.1 ?_).trans e,n,ne,nf,d⟩;intro q;rw[q,hoc]at e;have q':oc=p.2:=Option.some.inj e;exact d w' (by rw[<-q'];exact hocd)
theorem w5{M:Model}{A:Around}{E:Value->Shared->Prop}{i:Nat}{x:Str}{v:V}{u:Value}{Q:Unit->Shared->Prop}(I:Inv X pins σ H s)(hN:X.N.Nodup)(hi:X.N[i]?=some x)(hx:Loc X.env.scope x)(r:RelV v u)
  (h:∀s',Inv X pins (σ.set i (some v)) H s'->Q () s') (hf:X.fn x=true\/X.env.scope.names.lookup x=some .local:=by first|exact .inl rfl|exact .inr rfl|assumption):wpAny M A (storeName X.env x u) Q E s :=
 zbr I hN hi hx r (λs' I' _=>h s' I') hf
theorem Inv.call'{s':Shared}{ch:List Addr}(I:Inv X pins σ H s)(ho:s'.os=s.os)(u:Un (frs X.stack) ch H H' s.heap s'.heap)(hok:HOk X.prog X.w H' s'.heap)(hg:AllBare s'.gens)
  (hch:∀b∈ch,(b∈X.ex\/X.s₀.heap.objs.size<=b)/\b≠X.env.locals/\(∀x c,X.env.cells.lookup x=some c->c≠b)/\∀p∈X.pn++pins,p.1≠b):Inv X pins σ H' s':=by
 obtain⟨h',g',d',t',o'⟩:=s';have e:o'=s.os:=ho;subst e;exact I.call (g':=g') (t':=t') (d':=d') u hok hg hch
end
abbrev XK:=Value->Option Addr->Hp->Prop
abbrev St:=List (Option V)
abbrev VK:=V->Hp->Prop
abbrev TE:=St->Hp->VK->Prop
abbrev TT:=St->Hp->(Bool->Hp->Prop)->Prop
abbrev TA:=St->Hp->(List V->Hp->Prop)->Prop
structure zed where
 nx:St->Hp->Prop
 rt:VK
 bk:St->Hp->Prop:=λ_ _=>False
 ct:St->Hp->Prop:=λ_ _=>False
abbrev TS:=zed->St->Hp->Prop
def EP(X:Cx)(pins:List (Addr×Obj))(σ:St)(Q:VK)(u:Value)(s':Shared):Prop:=∃v H',Inv X pins σ H' s'/\RelV v u/\Q v H'
def TP(X:Cx)(pins:List (Addr×Obj))(σ:St)(Q:Bool->Hp->Prop)(b:Bool)(s':Shared):Prop:=∃H',Inv X pins σ H' s'/\Q b H'
def AP(X:Cx)(pins:List (Addr×Obj))(σ:St)(Q:List V->Hp->Prop)(us:List Value)(s':Shared):Prop:=∃vs H',Inv X pins σ H' s'/\Vals vs us/\Q vs H'
def SP(X:Cx)(pins:List (Addr×Obj))(D:zed)(f:Flow)(s':Shared):Prop :=
 match f with
 |.next=>∃σ' H',Inv X pins σ' H' s'/\D.nx σ' H'
 |.brk=>∃σ' H',Inv X pins σ' H' s'/\D.bk σ' H'
 |.cont=>∃σ' H',Inv X pins σ' H' s'/\D.ct σ' H'
 |.ret u=>∃v σ' H',Inv X pins σ' H' s'/\RelV v u/\D.rt v H'
def PE(X:Cx)(e:Expr)(t:TE):Prop :=
 ∀(pins:List (Addr×Obj)) (s:Shared) (σ:St) (H:Hp) (Q:VK),Inv X pins σ H s->t σ H Q->wpAny (model X.prog X.w) X.A (eval e X.env) (EP X pins σ Q) X.xe s
def PT(X:Cx)(e:Expr)(t:TT):Prop :=
 ∀(pins:List (Addr×Obj)) (s:Shared) (σ:St) (H:Hp) (Q:Bool->Hp->Prop),Inv X pins σ H s->t σ H Q->wpAny (model X.prog X.w) X.A (isTrue e X.env (eval e X.env)) (TP X pins σ Q) X.xe s
def PW(X:Cx)(e:Expr)(t:TT):Prop :=
 ∀(whole:Sem Value) (pins:List (Addr×Obj)) (s:Shared) (σ:St) (H:Hp) (Q:Bool->Hp->Prop),Inv X pins σ H s->t σ H Q->wpAny (model X.prog X.w) X.A (isTrue e X.env whole) (TP X pins σ Q) X.xe s
theorem PW.pt{X:Cx}{e:Expr}{t:TT}(h:PW X e t):PT X e t:=h _
def PA(X:Cx)(es:List Expr)(t:TA):Prop :=
 ∀(pos:Pos) (pins:List (Addr×Obj)) (s:Shared) (σ:St) (H:Hp) (Q:List V->Hp->Prop),Inv X pins σ H s->t σ H Q->wpAny (model X.prog X.w) X.A (spliced (backTo pos (starEach es X.env))) (AP X pins σ Q) X.xe s
def PS(X:Cx)(st:Stmt)(t:TS):Prop :=
 ∀(pins:List (Addr×Obj)) (s:Shared) (σ:St) (H:Hp) (D:zed),Inv X pins σ H s->t D σ H->wpAny (model X.prog X.w) X.A (exec st X.env) (SP X pins D) X.xe s
def PSs(X:Cx)(st:List Stmt)(t:TS):Prop :=
 ∀(pins:List (Addr×Obj)) (s:Shared) (σ:St) (H:Hp) (D:zed),Inv X pins σ H s->t D σ H->wpAny (model X.prog X.w) X.A (execs st X.env) (SP X pins D) X.xe s
theorem thn{α:Type}{t:Sem α}{Q Q':α->Shared->Prop}{M:Model}{A:Around}{E:Value->Shared->Prop}{s:Shared}(h:wpAny M A t Q E s)(hQ:∀a s,Q a s->Q' a s):wpAny M A t Q' E s:=wpAny_mono h hQ λ_ _ x=>x
section
variable {X:Cx}
def zpt(i:Nat):TE:=λσ H Q=>∃v,σ[i]?=some (some v)/\Q v H
def tC(v:V):TE:=λ_ H Q=>Q v H
theorem yg{i:Nat}{x:Str}{pos:Pos}(hN:X.N[i]?=some x)(hv:Vis X.env.scope x)(hd:(x ==("__debug__" : Str))=false:=by decide)(hcd:(x ==("__classdict__" : Str))=false:=by decide):PE X (.Name x pos) (zpt i):=by
 intro pins s σ H Q I h;obtain⟨v,e,h⟩:=h;obtain⟨m,hn,hl⟩:=I.loc;obtain⟨u,r,l⟩:=hl i x v hN e hv;have fin:EP X pins σ Q u s:=⟨v,H,I,r,h⟩
 rcases l with⟨hk,hm⟩ |⟨hk,c,hc,hcell⟩
 ·exact wpAny_Name (wpAny_loadName_local I.ok.kind hk hn hm fin) hd
 ·rcases hk with hk|hk
  ·exact wpAny_Name (wpAny_loadName_cell I.ok.kind hk hc hcell fin) hd
  ·exact wpAny_Name (wpAny_loadName_free I.ok.kind hk hc hcell fin hcd) hd
theorem yq{i j pos}:PE X (.Constant (.int i) j pos) (tC (.int i)):=λ_ _ _ H _ I h=>wpAny_Constant_int ⟨.int i,H,I.tok _,⟨_,rfl⟩,h⟩
theorem zpu{b j pos}:PE X (.Constant (.bool b) j pos) (tC (.bl b)):=λ_ _ _ H _ I h=>Constant_bool ⟨.bl b,H,I,rfl,h⟩
theorem zmz{j pos}:PE X (.Constant .none j pos) (tC .non):=λ_ _ _ H _ I h=>Constant_none ⟨.non,H,I,rfl,h⟩
theorem zm0{x j pos}:PE X (.Constant (.str x) j pos) (tC (.str x)):=λ_ _ _ H _ I h=>Calls.Constant_str ⟨.str x,H,I.tok _,⟨_,rfl⟩,h⟩
def Gl(X:Cx)(x:Str):Prop:=X.env.kindOf x=some .globalImplicit
theorem vz{E:Value->Shared->Prop}{pins:List (Addr×Obj)}{s:Shared}{σ:St}{H:Hp}{x:Str}{u:Value}{pos:Pos}{Q:Value->Shared->Prop}(I:Inv X pins σ H s)(hg:Gl X x)(hm:X.mg x=some u)(h:Q u s)
  (hd:(x ==("__debug__" : Str))=false:=by decide):wpAny (model X.prog X.w) X.A (eval (.Name x pos) X.env) Q E s :=
 Calls.Name_function_global I.ok.kind hg (Calls.loadGlobal_global (by rw[I.ok.glob];exact I.mod.glob.keeps I.bk) hm h) hd
theorem zag{E:Value->Shared->Prop}{pins:List (Addr×Obj)}{s:Shared}{σ:St}{H:Hp}{x:Str}{u:Value}{pos:Pos}{Q:Value->Shared->Prop}(I:Inv X pins σ H s)(hg:Gl X x)(hm:X.mg x=none)(hv:bootBuiltins x=some u)(h:Q u s)
  (hn:x ≠ "__name__" := by decide) (hd:(x ==("__debug__" : Str))=false:=by decide):wpAny (model X.prog X.w) X.A (eval (.Name x pos) X.env) Q E s:=by
 obtain⟨mb,h1,h2⟩:=I.mod.blt;exact Calls.Name_function_global I.ok.kind hg (Calls.loadGlobal_builtin (by rw[I.ok.glob];exact I.mod.glob.keeps I.bk) hm (by rw[I.ok.blt];exact h1.keeps I.bk) ((h2 x hn).trans hv) h) hd
theorem y9{x:Str}{v:V}{u:Value}{pos:Pos}(hg:Gl X x)(hm:X.mg x=some u)(r:RelV v u)(hd:(x ==("__debug__" : Str))=false:=by decide):PE X (.Name x pos) (tC v) :=
 λ_ _ _ H _ I h=>vz I hg hm ⟨v,H,I,r,h⟩ hd
theorem v3{x:Str}{v:V}{u:Value}{pos:Pos}(hg:Gl X x)(hm:X.mg x=none)(hv:bootBuiltins x=some u)(r:RelV v u)(hn:x ≠ "__name__" := by decide)(hd:(x ==("__debug__" : Str))=false:=by decide):PE X (.Name x pos) (tC v) :=
 λ_ _ _ H _ I h=>zag I hg hm hv ⟨v,H,I,r,h⟩ hn hd
variable {a b:Expr}{ta tb:TE}{pos:Pos}
variable {tA tB':TT}{rest:List Expr}
def zre(t u:TT):TT:=λσ H Q=>t σ H λc H1=>if c=true then u σ H1 Q else Q false H1
theorem zkp(ha:PT X a tA):PW X (.BoolOp .And [a] pos) tA:=by
 intro wh pins s σ H Q I h;refine isTrue_and (thn (ha pins s σ H Q I h) λc s1 e=>?_)
 cases c with
 |true=>exact isTrue_and_nil e
 |false=>exact e
theorem zm1(ha:PT X a tA)(hb:PW X (.BoolOp .And (b::rest) pos) tB'):PW X (.BoolOp .And (a::b::rest) pos) (zre tA tB'):=by
 intro wh pins s σ H Q I h;refine isTrue_and (thn (ha pins s σ H _ I h) λc s1 ⟨H1,I1,q1⟩=>?_)
 cases c with
 |true=>exact hb wh pins s1 σ H1 Q I1 q1
 |false=>exact⟨H1,I1,q1⟩
def tIf(t:TT)(ta tb:TE):TE:=λσ H Q=>t σ H λc H1=>if c=true then ta σ H1 Q else tb σ H1 Q
theorem zhs{c:Expr}(hc:PT X c tA)(ha:PE X a ta)(hb:PE X b tb):PE X (.IfExp c a b pos) (tIf tA ta tb):=by
 intro pins s σ H Q I h;refine wpAny_IfExp (thn (hc pins s σ H _ I h) λd s1 ⟨H1,I1,q1⟩=>?_)
 cases d with
 |true=>exact ha pins s1 σ H1 Q I1 q1
 |false=>exact hb pins s1 σ H1 Q I1 q1
end
def SqL(K:PySem.W.Frag)(H:Hp)(a:Addr)(xs:List V):Prop :=
 Rd H a (.lst xs) \/
  ∃(o:Obj) (its:Array Value) (n:Nat),K.lookup a=some o/\o.cls=.type "list" /\ o.dict=none/\o.data=.seq its n/\its.size<=sizeLine/\Vals xs its.toList
def SqT(K:PySem.W.Frag)(H:Hp)(a:Addr)(xs:List V):Prop :=
 Rd H a (.tup xs) \/
  ∃(o:Obj) (its:Array Value) (n:Nat),K.lookup a=some o/\o.cls=.type "tuple" /\ o.dict=none/\o.data=.seq its n/\its.size<=sizeLine/\Vals xs its.toList
def zrf:Value->Option V
 |.none=>some .non
 |.bool b=>some (.bl b)
 |.int i _=>some (.int i)
 |.str x _=>some (.str x)
 |.bytes b _=>some (.byt b)
 |.float b _=>some (.flt b)
 |.ref a=>some (.ref a)
 |.type n=>some (.ty n)
 |_=>none
theorem RelV.abs{x:V}{u:Value}(r:RelV x u):zrf u=some x:=by
 cases x with
 |non=>cases r;rfl
 |bl _=>cases r;rfl
 |int _=>obtain⟨t,rfl⟩:=r;rfl
 |str _=>obtain⟨t,rfl⟩:=r;rfl
 |byt _=>obtain⟨t,rfl⟩:=r;rfl
 |flt _=>obtain⟨t,rfl⟩:=r;rfl
 |ref _=>cases r;rfl
 |ty _=>cases r;rfl
theorem RelV.inj{x y:V}{u:Value}(r:RelV x u)(q:RelV y u):x=y:=Option.some.inj (r.abs.symm.trans q.abs)
theorem Vals.inj{xs ys:List V}{us:List Value}(h:Vals xs us)(h':Vals ys us):xs=ys:=by
 induction h generalizing ys with
 |nil=>cases h';rfl
 |cons r t ih=>
  cases h' with
  |cons r' t'=>rw[r.inj r',ih t']
section
variable {X:Cx}{pins:List (Addr×Obj)}{σ:St}{H:Hp}{s:Shared}{a:Addr}{xs ys:List V}
theorem SqL.of{K:PySem.W.Frag}(h:H a=some (.lst xs)):SqL K H a xs:=.inl (.inl h)
theorem SqT.of{K:PySem.W.Frag}(h:H a=some (.tup xs)):SqT K H a xs:=.inl (.inl h)
theorem Inv.list(I:Inv X pins σ H s)(h:SqL X.K H a xs):∃its:List Value,Vals xs its/\PlainL s.heap a its.toArray/\xs.length<=sizeLine:=by
 rcases h with h |⟨o,its,n,hk,hc,hd,hs,hz,r⟩
 ·obtain⟨z,its,n,r,e⟩:=h.ok I.hok;exact⟨its,r,⟨_,n,e,rfl,rfl,rfl⟩,z⟩
 ·refine⟨its.toList,r,⟨o,n,I.kIn a o hk,hc,hd,by simpa using hs⟩,?_⟩;have e:=r.length;simp only[Array.length_toList]at e;omega
theorem Inv.tupleD(I:Inv X pins σ H s)(h:SqT X.K H a xs):∃its:List Value,Vals xs its/\TupD s.heap a its.toArray/\xs.length<=sizeLine:=by
 rcases h with h |⟨o,its,n,hk,hc,hd,hs,hz,r⟩
 ·obtain⟨z,its,r,p⟩:=h.ok I.hok;exact⟨its,r,p,z⟩
 ·refine⟨its.toList,r,⟨o,I.kIn a o hk,hc,⟨n,by simpa using hs⟩,hd⟩,?_⟩;have e:=r.length;simp only[Array.length_toList]at e;omega
theorem Inv.tuple(I:Inv X pins σ H s)(h:SqT X.K H a xs):∃its:List Value,Vals xs its/\IsTup s.heap a its.toArray/\xs.length<=sizeLine:=by
 obtain⟨its,r,p,z⟩:=I.tupleD h;exact⟨its,r,p.isTup,z⟩
theorem Inv.list_inj(I:Inv X pins σ H s)(h:SqL X.K H a xs)(h':SqL X.K H a ys):xs=ys:=by
 obtain⟨its,r,⟨o,n,e,_,_,d⟩,_⟩:=I.list h;obtain⟨its',r',⟨o',n',e',_,_,d'⟩,_⟩:=I.list h';rw[e]at e';cases e';rw[d]at d';injection d' with d1 _
 have:its=its':=by simpa using congrArg Array.toList d1
 subst this;exact r.inj r'
theorem Inv.tuple_inj(I:Inv X pins σ H s)(h:SqT X.K H a xs)(h':SqT X.K H a ys):xs=ys:=by
 obtain⟨its,r,⟨o,e,_,n,d⟩,_⟩:=I.tuple h;obtain⟨its',r',⟨o',e',_,n',d'⟩,_⟩:=I.tuple h';rw[e]at e';cases e';rw[d]at d';injection d' with d1 _
 have:its=its':=by simpa using congrArg Array.toList d1
 subst this;exact r.inj r'
end
abbrev Cx.wish(X:Cx)(E:Value->Shared->Prop):Cx:={ X with xe:=E }
abbrev Cx.nox(X:Cx):Cx:=X.wish λ_ _=>False
theorem Cx.Ok.wish{X:Cx}(ok:X.Ok)(E:Value->Shared->Prop):(X.wish E).Ok :=
 ⟨ok.mod,ok.kind,ok.glob,ok.blt,ok.above,ok.inj,ok.has,ok.cab,ok.hd,ok.frames,ok.stk,ok.exf,ok.bs,ok.bsz,ok.noex,ok.exfs,ok.funs,ok.frf⟩
theorem Cx.Ok.unwish{X:Cx}{E:Value->Shared->Prop}(ok:(X.wish E).Ok):X.Ok :=
 ⟨ok.mod,ok.kind,ok.glob,ok.blt,ok.above,ok.inj,ok.has,ok.cab,ok.hd,ok.frames,ok.stk,ok.exf,ok.bs,ok.bsz,ok.noex,ok.exfs,ok.funs,ok.frf⟩
section
variable {X:Cx}{pins:List (Addr×Obj)}{σ:St}{H:Hp}{s:Shared}{E:Value->Shared->Prop}
theorem Inv.wish(I:Inv X pins σ H s)(E:Value->Shared->Prop):Inv (X.wish E) pins σ H s:=⟨I.ok.wish E,I.os,I.bare,I.base,I.loc,I.cell,I.free,I.freeC,I.pin,I.hok,I.len⟩
theorem Inv.unwish(I:Inv (X.wish E) pins σ H s):Inv X pins σ H s:=⟨I.ok.unwish,I.os,I.bare,I.base,I.loc,I.cell,I.free,I.freeC,I.pin,I.hok,I.len⟩
theorem SP.unwish{D:zed}{f:Flow}{s':Shared}(h:SP (X.wish E) pins D f s'):SP X pins D f s':=by
 cases f with
 |next=>obtain⟨σ',H',I,q⟩:=h;exact⟨σ',H',I.unwish,q⟩
 |brk=>obtain⟨σ',H',I,q⟩:=h;exact⟨σ',H',I.unwish,q⟩
 |cont=>obtain⟨σ',H',I,q⟩:=h;exact⟨σ',H',I.unwish,q⟩
 |ret u=>obtain⟨v,σ',H',I,r,q⟩:=h;exact⟨v,σ',H',I.unwish,r,q⟩
theorem PSs.nox{st:List Stmt}{t:TS}(h:PSs X.nox st t):PSs X st t:=λpins s σ H D I hw=>
 wpAny_mono (h pins s σ H D (I.wish _) hw) (λ_ _ q=>q.unwish) λ_ _ z=>False.elim z
end
section
variable {X:Cx}{st:Stmt}{rest:List Stmt}{t u:TS}{e:Expr}{te:TE}{pos:Pos}
def zpv:TS:=λD σ H=>D.nx σ H
def zrg(t u:TS):TS:=λD σ H=>t { D with nx:=u D } σ H
theorem zkq:PSs X [] zpv:=λ_ _ σ H _ I h=>wpAny_execs_nil ⟨σ,H,I,h⟩
theorem ki(h1:PS X st t)(h2:PSs X rest u):PSs X (st::rest) (zrg t u):=by
 intro pins s σ H D I h;refine wpAny_execs_cons (thn (h1 pins s σ H { D with nx:=u D } I h) λf s1 q=>?_)
 cases f with
 |next=>
  obtain⟨σ',H',I',q⟩:=q;exact h2 pins s1 σ' H' D I' q
 |ret v=>exact q
 |brk=>exact q
 |cont=>exact q
theorem zce(h1:PS X st t):PSs X [st] t:=by
 intro pins s σ H D I h;refine wpAny_execs_cons (thn (h1 pins s σ H D I h) λf s1 q=>?_)
 cases f with
 |next=>exact wpAny_execs_nil q
 |ret v=>exact q
 |brk=>exact q
 |cont=>exact q
theorem Inv.quiet{pins:List (Addr×Obj)}{σ:St}{H:Hp}{s:Shared}(I:Inv X pins σ H s):interactive X.env=false:=by simp[interactive,I.ok.kind]
def zpw(te:TE):TS:=λD σ H=>te σ H λ_ H1=>D.nx σ H1
theorem zcf(he:PE X e te)(hs:swapsWith e none pos.line X.env=pure false:=by rfl):PS X (.Expr e pos) (zpw te):=by
 intro pins s σ H D I h;exact wpAny_Expr_any (thn (he pins s σ H _ I h) λv s1 ⟨x,H1,I1,r1,q1⟩=>⟨σ,H1,I1,q1⟩) I.quiet hs
def zrh(te:TE):TS:=λD σ H=>te σ H D.rt
theorem we(he:PE X e te):PS X (.Return (some e) pos) (zrh te):=by
 intro pins s σ H D I h;exact wpAny_Return_some (thn (he pins s σ H _ I h) λv s1 ⟨x,H1,I1,r1,q1⟩=>⟨x,σ,H1,I1,r1,q1⟩)
def zri(c:TT)(t u:TS):TS:=λD σ H=>c σ H λb H1=>if b=true then t D σ H1 else u D σ H1
theorem zpx{c:Expr}{a b:List Stmt}{tc:TT}(hc:PT X c tc)(ha:PSs X a t)(hb:PSs X b u):PS X (.If c a b pos) (zri tc t u):=by
 intro pins s σ H D I h;refine wpAny_If (thn (hc pins s σ H _ I h) λd s1 ⟨H1,I1,q1⟩=>?_)
 cases d with
 |true=>exact ha pins s1 σ H1 D I1 q1
 |false=>exact hb pins s1 σ H1 D I1 q1
end
abbrev TG:=V->St->Hp->(St->Hp->Prop)->Prop
abbrev TGs:=List V->St->Hp->(St->Hp->Prop)->Prop
def PG(X:Cx)(target:Expr)(t:TG):Prop :=
 ∀(pins:List (Addr×Obj)) (s:Shared) (σ:St) (H:Hp) (v:V) (u:Value) (Q:St->Hp->Prop),Inv X pins σ H s->RelV v u->t v σ H Q ->
  wpAny (model X.prog X.w) X.A (assign target X.env u) (λ_ s'=>∃σ' H',Inv X pins σ' H' s'/\Q σ' H') X.xe s
def PGs(X:Cx)(ts:List Expr)(t:TGs):Prop :=
 ∀(pins:List (Addr×Obj)) (s:Shared) (σ:St) (H:Hp) (vs:List V) (us:List Value) (Q:St->Hp->Prop),Inv X pins σ H s->Vals vs us->t vs σ H Q ->
  wpAny (model X.prog X.w) X.A (assignInOrder ((assignEach ts X.env).map (·.2)) us) (λ_ s'=>∃σ' H',Inv X pins σ' H' s'/\Q σ' H') X.xe s
abbrev zm2:=V->V->V->Hp->(Hp->Prop)->Prop
def zpy(X:Cx)(t:zm2):Prop :=
 ∀(pins:List (Addr×Obj)) (s:Shared) (σ:St) (H:Hp) (o i v:V) (ov iv u:Value) (Q:Hp->Prop),Inv X pins σ H s->RelV o ov->RelV i iv->RelV v u->t o i v H Q ->
  wpAny (model X.prog X.w) X.A (setItem ov iv u) (λ_ s'=>∃H',Inv X pins σ H' s'/\Q H') X.xe s
section
variable {X:Cx}{pos:Pos}
def zmc(i:Nat):TG:=λv σ H Q=>Q (σ.set i (some v)) H
def zrj(to ti:TE)(t:zm2):TG:=λv σ H Q=>to σ H λo H1=>ti σ H1 λi H2=>t o i v H2 λH3=>Q σ H3
theorem zht{o i:Expr}{to ti:TE}{t:zm2}(ho:PE X o to)(hi:PE X i ti)(hs:zpy X t)
  (ha:∀v,assign (.Subscript o i pos) X.env v=(do
   let ov <-holding [v] (eval o X.env)
   let iv <-holding [v,ov] (eval i X.env)
   standAt pos
   holding [v,ov,iv] (setItem ov iv v)
   release [v,ov,iv] []):=by intro _;rfl):PG X (.Subscript o i pos) (zrj to ti t):=by
 intro pins s σ H v u Q I r h;rw[ha];refine wpAny_bind (wpAny_holding (thn (ho pins s σ H _ I h) λov s1 ⟨x,H1,I1,r1,q1⟩=>?_));refine wpAny_bind (wpAny_holding (thn (hi pins s1 σ H1 _ I1 q1) λiv s2 ⟨y,H2,I2,r2,q2⟩=>?_));refine wpAny_bind (wpAny_standAt (wpAny_bind (wpAny_holding (thn (hs pins s2 σ H2 x y v ov iv u _ I2 r1 r2 r q2) λ_ s3 ⟨H3,I3,q3⟩=>?_))));exact wpAny_release ⟨σ,H3,I3,q3⟩
def zm3(te:TE)(g:TG):TS:=λD σ H=>te σ H λx H1=>g x σ H1 D.nx
theorem zee{tg e:Expr}{te:TE}{g:TG}(he:PE X e te)(hg:PG X tg g)(hs:swapsWithSole [tg] e pos.line X.env=pure false:=by rfl)(hw:swappedStores [tg] e X.env=pure none:=by rfl)
  (h1:(assignEach [tg] X.env).map (·.2) = [assign tg X.env]:=by rfl):PS X (.Assign [tg] e pos) (zm3 te g):=by
 intro pins s σ H D I h;refine wpAny_Assign_stores (thn (he pins s σ H _ I h) λv s1 ⟨x,H1,I1,r1,q1⟩=>?_) hs hw;rw[h1];exact thn (hg pins s1 σ H1 x v _ I1 r1 q1) λ_ s2 q=>q
theorem je{i:Nat}{x:Str}{e:Expr}{te:TE}{pos':Pos}(hN:X.N.Nodup)(hi:X.N[i]?=some x)(hx:Loc X.env.scope x)(he:PE X e te)(hs:swapsWith e (some (.Name x pos')) pos.line X.env=pure false:=by rfl)(hf:X.fn x=true\/X.env.scope.names.lookup x=some .local:=by first|exact .inl rfl|exact .inr rfl|assumption):
  PS X (.Assign [.Name x pos'] e pos) (zm3 te (zmc i)):=by
 intro pins s σ H D I h;refine wpAny_Assign_Name (thn (he pins s σ H _ I h) λv s1 ⟨y,H1,I1,r1,q1⟩=>?_) hs;exact w5 I1 hN hi hx r1 (λs2 I2=>⟨_,H1,I2,q1⟩) hf
def zrk(i j:Nat)(ta:TA):TS:=λD σ H=>ta σ H λvs H1=>∃v w,vs = [v,w]/\D.nx ((σ.set i (some v)).set j (some w)) H1
theorem zhu{i j:Nat}{x y:Str}{a b:Expr}{ta:TA}{px py pt:Pos}{kt k2 pt2}(hc:X.calm=true)(hN:X.N.Nodup)(hi:X.N[i]?=some x)(hj:X.N[j]?=some y)(hij:i≠j)
  (hx:X.env.scope.names.lookup x=some .local) (hy:X.env.scope.names.lookup y=some .local) (ha:PA X [a,b] ta)
  (hw:swappedStores [.Tuple [.Name x px,.Name y py] kt pt] (.Tuple [a,b] k2 pt2) X.env=pure (some [x,y]))
  (hs:swapsWithSole [.Tuple [.Name x px,.Name y py] kt pt] (.Tuple [a,b] k2 pt2) pos.line X.env=pure false:=by rfl) :
  PS X (.Assign [.Tuple [.Name x px,.Name y py] kt pt] (.Tuple [a,b] k2 pt2) pos) (zrk i j ta):=by
 intro pins s σ H D I h;rw[exec_Assign_arm];refine wpAny_bind (wpAny_standAt ?_);rw[hs];refine wpAny_bind (wpAny_pure ?_);rw[if_neg (by decide)];refine wpAny_bind (Tuple_ (thn (ha _ pins s σ H _ I h) λus s1 ⟨vs,H1,I1,r1,q1⟩=>?_));obtain⟨v,w,e1,q1⟩:=q1;subst e1;obtain⟨u1,u2,rfl,rv,rw'⟩:∃u1 u2,us = [u1,u2]/\RelV v u1/\RelV w u2:=by
  cases r1 with
  |cons p q=>
   cases q with
   |cons p' q'=>
    cases q';exact⟨_,_,rfl,p,p'⟩
 refine wpAny_newObj_type ?_ (by show 2<=sizeLine;decide);have I2:Inv X pins σ H1 { s1 with heap:=s1.heap.push { cls:=.type "tuple",data:=.seq [u1,u2].toArray } }:=I1.kept (t':=s1.toks) λb o e=>Heap.get?_push_of_some _ e;rw[hw];refine wpAny_bind (wpAny_pure ?_);show wpAny (model X.prog X.w) X.A (do rule "assign.swapped-stores";let items <-unpackItems (.ref s1.heap.objs.size) 2 none;assignInOrder [λv=>bindName X.env y v,λv=>bindName X.env x v] items.reverse;pure Flow.next) _ _ _;refine wpAny_bind (wpAny_rule (wpAny_bind (unpackItems_tuple (items:=#[u1,u2]) (I.ok.hd hc) (IsTup.new s1.heap _) λh' hx'=>?_)));have I3:=I2.kept (h':=h') (t':=s1.toks) λb o e=>hx' b o (Nat.ne_of_lt (Heap.lt_size e)) e;show wpAny _ _ (assignInOrder [λv=>bindName X.env y v,λv=>bindName X.env x v] [u2,u1] >>= λ_=>pure Flow.next) _ _ _;refine wpAny_bind (assignInOrder_cons (wpAny_bindName (w5 I3 hN hj (.inl hy) rw' (λs2 I4=>?_) (.inr hy))));refine assignInOrder_cons (wpAny_bindName (w5 I4 hN hi (.inl hx) rv (λs3 I5=>assignInOrder_nil (wpAny_pure ?_)) (.inr hx)));rw[List.set_comm _ _ (Ne.symm hij)]at I5;exact⟨_,H1,I5,q1⟩
end
section
variable {X:Cx}{pos:Pos}
end
structure It where
 go:Nat->Hp->Prop
 yld:Nat->Hp->V->Hp->Prop
 stop:Nat->Hp->Prop
def FpOk(X:Cx)(pins:List (Addr×Obj))(H:Hp)(b:Addr):Prop :=
 H b=none/\b≠X.env.locals/\b∉X.fs/\(b∈X.ex\/X.s₀.heap.objs.size<=b)/\(∀x c,X.env.cells.lookup x=some c->c≠b)/\∀p∈X.pn++pins,p.1≠b
theorem Inv.fpOk{X:Cx}{pins:List (Addr×Obj)}{σ:St}{H H':Hp}{s:Shared}{b:Addr}(I:Inv X pins σ H s)(hb:s.heap.objs.size<=b)(hn:H' b=none):FpOk X pins H' b:=by
 refine⟨hn,Nat.ne_of_gt (Nat.lt_of_lt_of_le I.lt hb),I.nofs hb,.inr (Nat.le_trans I.sz hb),λx c e z=>?_,λp hp z=>?_⟩
 ·obtain⟨v,q⟩:=I.cell x c e;exact absurd (Nat.lt_of_lt_of_le q.lt (by rw[z];exact hb)) (Nat.lt_irrefl _)
 ·exact absurd (Nat.lt_of_lt_of_le (Heap.lt_size (I.pin p hp).1) (by rw[z];exact hb)) (Nat.lt_irrefl _)
structure zef(P:Program)(w:World)(K:PySem.W.Frag)(tg:Expr)(J:It)(fp:List Addr)(it:Addr)(tn:Nat->Heap->Prop):Prop where
 mem:it∈fp
 obj:∀i h,tn i h->∀b∈fp,∃o,h.get? b=some o/\∀v,o.data ≠ .cell v
 keep:∀i h h',tn i h->(∀b∈fp,∀o,h.get? b=some o->h'.get? b=some o)->tn i h'
 item:∀(X:Cx),X.prog=P->X.w=w->X.K=K->X.calm=true->∀(i:Nat) (pins:List (Addr×Obj)) (s:Shared) (σ:St) (H:Hp) (E:Value->Shared->Prop),Inv X pins σ H s->(∀b∈fp,FpOk X pins H b)->tn i s.heap->J.go i H ->
  wpAny (model P w) X.A (pyNext (.ref it)) (λr s1=>∃u,r=some u /\
   wpAny (model P w) X.A (letOwnedTupleGo tg (.ref it) u) (λ_ s2=>∃x H',Inv X pins σ H' s2/\RelV x u/\J.yld i H x H'/\tn (i+1) s2.heap/\∀b∈fp,H' b=none) E s1) E s
 done:∀(X:Cx),X.prog=P->X.w=w->X.K=K->X.calm=true->∀(i:Nat) (pins:List (Addr×Obj)) (s:Shared) (σ:St) (H:Hp) (E:Value->Shared->Prop),Inv X pins σ H s->(∀b∈fp,FpOk X pins H b)->tn i s.heap->J.stop i H ->
  wpAny (model P w) X.A (pyNext (.ref it)) (λr s1=>r=none/\Inv X pins σ H s1) E s
 self:∀(A:Around) (i:Nat) (s:Shared) (Q:Value->Shared->Prop) (E:Value->Shared->Prop),tn i s.heap->Q (.ref it) s->wpAny (model P w) A (pyIter (.ref it)) Q E s
abbrev TI:=St->Hp->(It->Hp->Prop)->Prop
def PIE(X:Cx)(pins:List (Addr×Obj))(σ:St)(tg:Expr)(R:It->Hp->Prop)(itv:Value)(s2:Shared):Prop :=
 ∃(it:Addr) (fp:List Addr) (tn:Nat->Heap->Prop) (J:It) (H':Hp),itv=.ref it/\Inv X pins σ H' s2/\zef X.prog X.w X.K tg J fp it tn/\tn 0 s2.heap/\(∀b∈fp,FpOk X pins H' b)/\R J H'
def PI(X:Cx)(tg iter:Expr)(wi:TI):Prop :=
 ∀(pins:List (Addr×Obj)) (s:Shared) (σ:St) (H:Hp) (R:It->Hp->Prop),Inv X pins σ H s->wi σ H R ->
  wpAny (model X.prog X.w) X.A (eval iter X.env) (λv s1=>wpAny (model X.prog X.w) X.A (pyIter v) (PIE X pins σ tg R) X.xe s1) X.xe s
theorem zft{M:Model}{A:Around}{E:Value->Shared->Prop}{s:Shared}{tg:Expr}{it:Addr}{u:Value}{o:Obj}{n:String}{vs:Array Value}{Q:Unit->Shared->Prop}(ho:s.heap.get? it=some o)(hc:o.cls=.type n)(hd:o.data=.fields vs)
  (hn : ["enumerate", "zip", "dict_itemiterator", "dict_reverseitemiterator", "odict_iterator", "itertools.zip_longest", "itertools.pairwise"].contains n=false) (hQ:Q () s):wpAny M A (letOwnedTupleGo tg (.ref it) u) Q E s:=by
 unfold letOwnedTupleGo
 cases tg <;> first
  |exact wpAny_pure hQ
  |(cases u <;> first
    |exact wpAny_pure hQ
    |(refine wpAny_bind (wpAny_load ho ?_);rw[hc,hd];show wpAny M A (if (["enumerate", "zip", "dict_itemiterator", "dict_reverseitemiterator", "odict_iterator", "itertools.zip_longest", "itertools.pairwise"].contains n && vs[0]? == some (rawInt _))=true then _ else _) Q E s;rw[if_neg (by intro h;rw[hn,Bool.false_and]at h;cases h)];exact wpAny_pure hQ))
def Itl(K:PySem.W.Frag)(a:Addr):It :=
 ⟨λi H=>∃xs x,SqL K H a xs/\xs[i]?=some x,λi H x H'=>H'=H/\∀xs,SqL K H a xs->xs[i]?=some x,λi H=>∃xs,SqL K H a xs/\xs.length<=i⟩
def Itt(K:PySem.W.Frag)(a:Addr):It :=
 ⟨λi H=>∃xs x,SqT K H a xs/\xs[i]?=some x,λi H x H'=>H'=H/\∀xs,SqT K H a xs->xs[i]?=some x,λi H=>∃xs,SqT K H a xs/\xs.length<=i⟩
def Itr(lo:Int)(n:Nat):It:=⟨λi _=>i<n,λi H x H'=>H'=H/\x=.int (lo+i),λi _=>n<=i⟩
theorem zgs{P:Program}{w:World}{K:PySem.W.Frag}{tg:Expr}(a it:Addr):zef P w K tg (Itl K a) [it] it (λi h=>h.IsListIter it a i) where
 mem:=by simp
 obj:=λi h st b hb=>by
  have e:b=it:=by simpa using hb
  subst e;obtain⟨o,e,c,d⟩:=st;exact⟨o,e,λv z=>by rw[d]at z;cases z⟩
 keep:=λi h h' st k=>st.at λo e=>k it (by simp) o e
 item:=by
  intro X hP hw hK hc i pins s σ H E I hf st hg;subst hP hw hK;obtain⟨xs,x,hq,hx⟩:=hg;obtain⟨its,rv,p,hz⟩:=I.list hq;obtain⟨u,hu,ru⟩:=rv.get hx;obtain⟨f0,f1,f2,f3,f4,f5⟩:=hf it (by simp);refine wpAny_pyNext_list_item st p.isList (x:=u) (by simpa using hu) λh' st' sb=>?_;have I1:Inv X pins σ H { s with heap:=h' }:=I.turned (t':=s.toks) (λb o hb e=>(sb.2 b hb).trans e) f0 f1 f3 f4 f5;obtain⟨o,e,c,d⟩:=id st';exact⟨u,rfl,zft (s:={ s with heap:=h' }) e c d (by decide) ⟨x,H,I1,ru,⟨rfl,λys hy=>by rw[I.list_inj hy hq];exact hx⟩,st',λb hb=>(hf b hb).1⟩⟩
 done:=by
  intro X hP hw hK hc i pins s σ H E I hf st hg;subst hP hw hK;obtain⟨xs,hq,hx⟩:=hg;obtain⟨its,rv,p,hz⟩:=I.list hq;obtain⟨f0,f1,f2,f3,f4,f5⟩:=hf it (by simp);have hl:=rv.length;exact wpAny_pyNext_list_end (I.ok.hd hc) st p.isList (by simp;omega) λh' eb=>⟨rfl,I.turned (t':=s.toks) (λb o hb e=>eb b o hb e) f0 f1 f3 f4 f5⟩
 self:=λ_ _ _ _ _ st h=>wpAny_pyIter_listiter st h
theorem zeg{P:Program}{w:World}{K:PySem.W.Frag}{tg:Expr}(a it:Addr):zef P w K tg (Itt K a) [it] it (λi h=>h.IsTupleIter it a i) where
 mem:=by simp
 obj:=λi h st b hb=>by
  have e:b=it:=by simpa using hb
  subst e;obtain⟨o,e,c,d⟩:=st;exact⟨o,e,λv z=>by rw[d]at z;cases z⟩
 keep:=λi h h' st k=>st.at λo e=>k it (by simp) o e
 item:=by
  intro X hP hw hK hc i pins s σ H E I hf st hg;subst hP hw hK;obtain⟨xs,x,hq,hx⟩:=hg;obtain⟨its,rv,p,hz⟩:=I.tuple hq;obtain⟨u,hu,ru⟩:=rv.get hx;obtain⟨f0,f1,f2,f3,f4,f5⟩:=hf it (by simp);refine wpAny_pyNext_tuple_item st (show s.heap.IsTuple a its.toArray from p) (x:=u) (by simpa using hu) λh' st' sb=>?_;have I1:Inv X pins σ H { s with heap:=h' }:=I.turned (t':=s.toks) (λb o hb e=>(sb.2 b hb).trans e) f0 f1 f3 f4 f5;obtain⟨o,e,c,d⟩:=id st';exact⟨u,rfl,zft (s:={ s with heap:=h' }) e c d (by decide) ⟨x,H,I1,ru,⟨rfl,λys hy=>by rw[I.tuple_inj hy hq];exact hx⟩,st',λb hb=>(hf b hb).1⟩⟩
 done:=by
  intro X hP hw hK hc i pins s σ H E I hf st hg;subst hP hw hK;obtain⟨xs,hq,hx⟩:=hg;obtain⟨its,rv,p,hz⟩:=I.tuple hq;obtain⟨f0,f1,f2,f3,f4,f5⟩:=hf it (by simp);have hl:=rv.length;exact wpAny_pyNext_tuple_end (I.ok.hd hc) st (show s.heap.IsTuple a its.toArray from p) (by simp;omega) λh' eb=>⟨rfl,I.turned (t':=s.toks) (λb o hb e=>eb b o hb e) f0 f1 f3 f4 f5⟩
 self:=λ_ _ _ _ _ st h=>wpAny_pyIter_tupleiter st h
theorem zeh{P:Program}{w:World}{K:PySem.W.Frag}{tg:Expr}(it:Addr)(lo:Int)(n:Nat):zef P w K tg (Itr lo n) [it] it (λi h=>IsRangeIter h it (lo+(i:Nat) * 1) ((n:Int)-(i:Nat)) 1) where
 mem:=by simp
 obj:=λi h st b hb=>by
  have e:b=it:=by simpa using hb
  subst e;exact⟨_,st,λv z=>by
   have z':Data.fields _=Data.cell v:=z
   cases z'⟩
 keep:=λi h h' st k=>k it (by simp) _ st
 item:=by
  intro X hP hw hK hc i pins s σ H E I hf st hg;subst hP hw hK;obtain⟨f0,f1,f2,f3,f4,f5⟩:=hf it (by simp);have W:=Walks.range (prog:=X.prog) (w:=X.w) (I.ok.hd hc) it lo 1 n;refine W.item i s _ _ hg st λv h' tk hv st' kk=>?_;obtain⟨t,rfl⟩:=hv;have I1:Inv X pins σ H { s with heap:=h',toks:=tk }:=I.turned (λb o hb e=>kk b o (by simpa using hb) e) f0 f1 f3 f4 f5;refine⟨_,rfl,zft (s:={ s with heap:=h',toks:=tk }) (n := "range_iterator") st' rfl rfl (by decide) ⟨.int (lo+i),H,I1,⟨t,?_⟩,⟨rfl,rfl⟩,st',λb hb=>(hf b hb).1⟩⟩;rw[Int.mul_one]
 done:=by
  intro X hP hw hK hc i pins s σ H E I hf st hg;subst hP hw hK;obtain⟨f0,f1,f2,f3,f4,f5⟩:=hf it (by simp);exact wpAny_pyNext_range_end (I.ok.hd hc) st (by have:n<=i:=hg;omega) λh' eb=>⟨rfl,I.turned (t':=s.toks) (λb o hb e=>eb b o hb e) f0 f1 f3 f4 f5⟩
 self:=λ_ _ _ _ _ st h=>wpAny_pyIter_rangeiter st h
section
variable {X:Cx}{tg:Expr}
theorem zhv{pins:List (Addr×Obj)}{σ:St}{H:Hp}{s:Shared}{R:It->Hp->Prop}{E:Value->Shared->Prop}{lo hi:Int}{t u v:Tok}{tk:Nat}(I:Inv X pins σ H s)(h1 : -(2 ^ 62)<=lo)(h2:lo<2 ^ 62)(h3 : -(2 ^ 62)<=hi)(h4:hi<2 ^ 62)
  (q:R (Itr lo (hi-lo).toNat) H):wpAny (model X.prog X.w) X.A (pyIter (.ref s.heap.objs.size)) (PIE X pins σ tg R) E { s with heap:=s.heap.push { cls:=.type "range",data:=.fields #[.int lo t,.int hi u,.int 1 v] },toks:=tk }:=by
 refine wpAny_pyIter_range (IsRange.new ..) (small_one h1 h2 h3 h4) ?_;have I1:Inv X pins σ H { s with heap:=s.heap.push { cls:=.type "range",data:=.fields #[.int lo t,.int hi u,.int 1 v] },toks:=tk }:=I.kept λb o e=>Heap.get?_push_of_some _ e;refine⟨(s.heap.push { cls:=.type "range",data:=.fields #[.int lo t,.int hi u,.int 1 v] }).objs.size,[(s.heap.push { cls:=.type "range",data:=.fields #[.int lo t,.int hi u,.int 1 v] }).objs.size],_,_,H,rfl,
  I1.kept (t':=tk) λb o e=>Heap.get?_push_of_some _ e,zeh _ lo (hi-lo).toNat,?_,λb hb=>?_,q⟩
 ·have e1:lo+((0:Nat):Int) * 1=lo:=by simp
  have e2:(((hi-lo).toNat:Nat):Int)-((0:Nat):Int)=Builtin.Range.rangeSize lo hi 1:=by rw[rangeSize_one];split <;> omega
  show IsRangeIter _ _ (lo+((0:Nat):Int) * 1) ((((hi-lo).toNat:Nat):Int)-((0:Nat):Int)) 1;rw[e1,e2];exact Heap.get?_push_size _ rfl
 ·have e:b=(s.heap.push { cls:=.type "range",data:=.fields #[.int lo t,.int hi u,.int 1 v] }).objs.size:=by simpa using hb
  subst e;exact I1.fpOk (Nat.le_refl _) (I1.hok.fresh (Nat.le_refl _))
def zpz(ta:TA):TI:=λσ H R=>ta σ H λvs H1=>∃j:Int,vs = [.int j]/\-(2 ^ 62)<=j/\j<2 ^ 62/\R (Itr 0 j.toNat) H1
theorem zgt{a:Expr}{ta:TA}{p pos:Pos}(hg:Gl X "range")(hm:X.mg "range" = none)(ha:PA X [a] ta)(hs:starEach [a] X.env = [(false,eval a X.env)]:=by rfl):PI X tg (.Call (.Name "range" p) [a] [] pos) (zpz ta):=by
 intro pins s σ H R I h;refine Call_ (zag I hg hm boot_range (PyProof.Rows.callWith_type1 (thn (ha pos pins s σ H _ I h) λus s1 ⟨vs,H1,I1,r1,q1⟩=>?_) hs rfl));obtain⟨j,e,q1,q2,q⟩:=q1;subst e
 cases r1 with
 |cons r rr=>
  cases rr;obtain⟨t,rfl⟩:=r;exact call_range_1 (zhv I1 (by omega) (by omega) q1 q2 (by simpa using q))
def zrl(wi:TI)(g:TG)(tb:TS):TS:=λD σ H=>wi σ H λJ H1=>∃W:Nat->Nat->St->Hp->Prop,(∃m,W 0 m σ H1)/\∀i m σ H,W i m σ H ->
 (J.stop i H/\D.nx σ H)\/(J.go i H/\∃N:St->Hp->Prop,(∀σ' H',N σ' H'->∃m',m' < m/\W (i+1) m' σ' H')/\∀x H',J.yld i H x H'->g x σ H' λσ2 H2=>tb { D with nx:=N,ct:=N,bk:=D.nx } σ2 H2)
def zah(fp:List Addr)(h:Heap):List (Addr×Obj):=fp.filterMap λb=>(h.get? b).map λo=>(b,o)
theorem wf{fp:List Addr}{h:Heap}{b:Addr}{o:Obj}(hb:b∈fp)(e:h.get? b=some o):(b,o)∈zah fp h:=List.mem_filterMap.mpr ⟨b,hb,by rw[e];rfl⟩
theorem zgu{fp:List Addr}{h:Heap}{p:Addr×Obj}(hp:p∈zah fp h):p.1∈fp/\h.get? p.1=some p.2:=by
 obtain⟨b,hb,e⟩:=List.mem_filterMap.mp hp
 cases q:h.get? b with
 |none=>rw[q]at e;cases e
 |some o=>
  rw[q]at e;have e':(b,o)=p:=Option.some.inj e;subst e';exact⟨hb,q⟩
theorem Inv.pinned{pins:List (Addr×Obj)}{σ:St}{H:Hp}{s:Shared}{fp:List Addr}(I:Inv X pins σ H s)(hf:∀b∈fp,FpOk X pins H b)(ho:∀b∈fp,∃o,s.heap.get? b=some o/\∀v,o.data ≠ .cell v):Inv X (pins++zah fp s.heap) σ H s :=
 I.pins_of λp hp=>(List.mem_append.mp hp).elim (λz=>I.pin p (List.mem_append_right _ z)) λz=>by
  obtain⟨hb,e⟩:=zgu z;obtain⟨f0,f1,f2,_⟩:=hf p.1 hb;obtain⟨o,e',d⟩:=ho p.1 hb;rw[e]at e';cases e';exact⟨e,f0,f1,f2,d⟩
theorem Inv.unpinned{pins pl:List (Addr×Obj)}{σ:St}{H:Hp}{s:Shared}(I:Inv X (pins++pl) σ H s):Inv X pins σ H s:=I.pins_of λp hp=>I.pin p (List.mem_append_right _ (List.mem_append_left _ hp))
theorem zm4{iter:Expr}{body:List Stmt}{wi:TI}{g:TG}{tb:TS}{pos:Pos}(hp:PassesOwn (model X.prog X.w) X.A X.env X.xe)(hc:X.calm=true)(hi:PI X tg iter wi)(hg:PG X tg g)(hb:PSs X body tb)
  (hs:∀x,foldedSetIterable iter X.env x=pure x:=by intro _;rfl):PS X (.For tg iter body [] pos) (zrl wi g tb):=by
 intro pins s σ H D I h;refine wpAny_For (thn (hi pins s σ H _ I h) λv s1 h1=>thn h1 λitv s2 h2=>?_) hs;obtain⟨it,fp,tn,J,H2,e,I2,T,st2,f2,W,⟨m0,w0⟩,turn⟩:=h2;subst e
 -- what stays true of the iterator's objects through the loop
 have stat:∀{H':Hp},(∀b∈fp,H' b=none)->∀b∈fp,FpOk X pins H' b:=λhn b hb=>⟨hn b hb,(f2 b hb).2⟩
 refine codeAny_forLoop_any (λn s'=>∃i σ' H',Inv X pins σ' H' s'/\tn i s'.heap/\(∀b∈fp,H' b=none)/\W i n σ' H') ?_ m0 ⟨0,σ,H2,I2,st2,λb hb=>(f2 b hb).1,w0⟩;rintro n s3 ⟨i,σ3,H3,I3,st3,fr3,w3⟩;rcases turn i n σ3 H3 w3 with⟨stop,qn⟩ |⟨go,N,hN,step⟩
 ·refine wpAny_passesOwn hp (thn (T.done X rfl rfl rfl hc i pins s3 σ3 H3 X.xe I3 (stat fr3) st3 stop) λr s4 ⟨hr,I4⟩=>?_);subst hr;exact wpAny_execs_nil ⟨σ3,H3,I4,qn⟩
 ·refine wpAny_passesOwn hp (thn (T.item X rfl rfl rfl hc i pins s3 σ3 H3 X.xe I3 (stat fr3) st3 go) λr s4 ⟨u,hr,h4⟩=>?_);subst hr;refine wpAny_passesOwn hp (thn h4 λ_ s5 ⟨x,H5,I5,r5,y5,st5,fr5⟩=>?_);have I5':=I5.pinned (stat fr5) (T.obj _ _ st5);refine wpAny_passesOwn hp (thn (hg _ s5 σ3 H5 x u _ I5' r5 (step x H5 y5)) λ_ s6 ⟨σ6,H6,I6,q6⟩=>?_);refine wpAny_passesOwn hp (thn (hb _ s6 σ6 H6 _ I6 q6) λf s7 q7=>?_)
  have again:∀{σ7:St}{H7:Hp},Inv X (pins++zah fp s5.heap) σ7 H7 s7->N σ7 H7->∃m,m<n/\∃i σ' H',Inv X pins σ' H' s7/\tn i s7.heap/\(∀b∈fp,H' b=none)/\W i m σ' H':=λ{σ7 H7} I7 n7=>by
   obtain⟨m',hm,w7⟩:=hN σ7 H7 n7;refine⟨m',hm,i+1,σ7,H7,I7.unpinned,T.keep _ _ _ st5 λb hb o e=>(I7.pin (b,o) (List.mem_append_right _ (List.mem_append_right _ (wf hb e)))).1,λb hb=>?_,w7⟩;obtain⟨o,e,d⟩:=T.obj _ _ st5 b hb;exact(I7.pin (b,o) (List.mem_append_right _ (List.mem_append_right _ (wf hb e)))).2.1
  cases f with
  |next=>obtain⟨σ7,H7,I7,n7⟩:=q7;exact again I7 n7
  |cont=>obtain⟨σ7,H7,I7,n7⟩:=q7;exact again I7 n7
  |brk=>obtain⟨σ7,H7,I7,q7⟩:=q7;exact⟨σ7,H7,I7.unpinned,q7⟩
  |ret v=>obtain⟨x7,σ7,H7,I7,r7,q7⟩:=q7;exact⟨x7,σ7,H7,I7.unpinned,r7,q7⟩
end
abbrev R2:=V->V->Hp->VK->Prop
def OpR(X:Cx)(f:Value->Value->Sem Value)(r:R2):Prop :=
 ∀(pins:List (Addr×Obj)) (s:Shared) (σ:St) (H:Hp) (x y:V) (v u:Value) (Q:VK),Inv X pins σ H s->RelV x v->RelV y u->r x y H Q ->
  wpAny (model X.prog X.w) X.A (f v u) (EP X pins σ Q) X.xe s
def UnR(X:Cx)(f:Value->Sem Value)(r:V->Hp->VK->Prop):Prop :=
 ∀(pins:List (Addr×Obj)) (s:Shared) (σ:St) (H:Hp) (x:V) (v:Value) (Q:VK),Inv X pins σ H s->RelV x v->r x H Q ->
  wpAny (model X.prog X.w) X.A (f v) (EP X pins σ Q) X.xe s
def xm(X:Cx)(f:Value)(r:List V->Hp->VK->Prop):Prop :=
 ∀(pins:List (Addr×Obj)) (s:Shared) (σ:St) (H:Hp) (xs:List V) (us:List Value) (Q:VK),Inv X pins σ H s->Vals xs us->r xs H Q ->
  wpAny (model X.prog X.w) X.A (call f us) (EP X pins σ Q) X.xe s
def zrm(X:Cx)(r:V->Hp->(Bool->Hp->Prop)->Prop):Prop :=
 ∀(pins:List (Addr×Obj)) (s:Shared) (σ:St) (H:Hp) (x:V) (v:Value) (Q:Bool->Hp->Prop),Inv X pins σ H s->RelV x v->r x H Q ->
  wpAny (model X.prog X.w) X.A (truthy v) (TP X pins σ Q) X.xe s
def tOp(r:R2)(ta tb:TE):TE:=λσ H Q=>ta σ H λx H1=>tb σ H1 λy H2=>r x y H2 Q
def tUn(r:V->Hp->VK->Prop)(ta:TE):TE:=λσ H Q=>ta σ H λx H1=>r x H1 Q
def rI(C:Int->Int->Prop)(g:Int->Int->V):R2:=λx y H Q=>∃i j,x=.int i/\y=.int j/\C i j/\Q (g i j) H
def rI0(g:Int->Int->V):R2:=λx y H Q=>∃i j,x=.int i/\y=.int j/\Q (g i j) H
def rU(g:Int->V):V->Hp->VK->Prop:=λx H Q=>∃i,x=.int i/\Q (g i) H
section
variable {X:Cx}{a b c:Expr}{ta tb tc:TE}{pos:Pos}
theorem zp0(ha:PE X a ta)(hb:PE X b tb){pins:List (Addr×Obj)}{s:Shared}{σ:St}{H:Hp}{R:V->V->Hp->Prop}(I:Inv X pins σ H s)
  (h:ta σ H λx H1=>tb σ H1 λy H2=>R x y H2) {Q:Value->Shared->Prop}{f:Value->Value->Sem Value}
  (hf:∀v u s2 x y H2,Inv X pins σ H2 s2->RelV x v->RelV y u->R x y H2->wpAny (model X.prog X.w) X.A (f v u) Q X.xe s2) :
  wpAny (model X.prog X.w) X.A (eval a X.env) (λv s₁=>wpAny (model X.prog X.w) X.A (eval b X.env) (λu s₂=>wpAny (model X.prog X.w) X.A (f v u) Q X.xe s₂) X.xe s₁) X.xe s:=by
 refine thn (ha pins s σ H _ I h) λv s1 ⟨x,H1,I1,r1,q1⟩=>?_;refine thn (hb pins s1 σ H1 _ I1 q1) λu s2 ⟨y,H2,I2,r2,q2⟩=>?_;exact hf v u s2 x y H2 I2 r1 r2 q2
theorem zda{op:Operator}{r:R2}(ho:OpR X (binaryOp op) r)(ha:PE X a ta)(hb:PE X b tb):PE X (.BinOp a op b pos) (tOp r ta tb):=by
 intro pins s σ H Q I h;exact wpAny_BinOp (zp0 ha hb I h λv u s2 x y H2 I2 rx ry q=>ho pins s2 σ H2 x y v u Q I2 rx ry q)
theorem zmd{op:UnaryOp}{r:V->Hp->VK->Prop}(ho:UnR X (unaryOp op) r)(ha:PE X a ta):PE X (.UnaryOp op a pos) (tUn r ta):=by
 intro pins s σ H Q I h;exact UnaryOp_ (thn (ha pins s σ H _ I h) λv s1 ⟨x,H1,I1,r1,q1⟩=>ho pins s1 σ H1 x v Q I1 r1 q1)
theorem opI{f:Value->Value->Sem Value}{C:Int->Int->Prop}{g:Int->Int->Int}
  (rule:∀(i j:Int) (t u:Tok) (s:Shared) (Q:Value->Shared->Prop) (E:Value->Shared->Prop),C i j->Q (.int (g i j) s.toks) { s with toks:=s.toks+1 }->wpAny (model X.prog X.w) X.A (f (.int i t) (.int j u)) Q E s) :
  OpR X f (rI C λi j=>.int (g i j)):=by
 intro pins s σ H x y v u Q I rx ry h;obtain⟨i,j,rfl,rfl,hc,q⟩:=h;obtain⟨t,rfl⟩:=rx;obtain⟨t',rfl⟩:=ry;exact rule i j t t' s _ _ hc ⟨.int (g i j),H,I.tok _,⟨_,rfl⟩,q⟩
theorem zp1{f:Value->Value->Sem Value}{g:Int->Int->Int}
  (rule:∀(i j:Int) (t u:Tok) (s:Shared) (Q:Value->Shared->Prop) (E:Value->Shared->Prop),Q (.int (g i j) s.toks) { s with toks:=s.toks+1 }->wpAny (model X.prog X.w) X.A (f (.int i t) (.int j u)) Q E s) :
  OpR X f (rI0 λi j=>.int (g i j)):=by
 intro pins s σ H x y v u Q I rx ry h;obtain⟨i,j,rfl,rfl,q⟩:=h;obtain⟨t,rfl⟩:=rx;obtain⟨t',rfl⟩:=ry;exact rule i j t t' s _ _ ⟨.int (g i j),H,I.tok _,⟨_,rfl⟩,q⟩
theorem zm5{f:Value->Value->Sem Value}{g:Int->Int->Bool}
  (rule:∀(i j:Int) (t u:Tok) (s:Shared) (Q:Value->Shared->Prop) (E:Value->Shared->Prop),Q (.bool (g i j)) s->wpAny (model X.prog X.w) X.A (f (.int i t) (.int j u)) Q E s) :
  OpR X f (rI0 λi j=>.bl (g i j)):=by
 intro pins s σ H x y v u Q I rx ry h;obtain⟨i,j,rfl,rfl,q⟩:=h;obtain⟨t,rfl⟩:=rx;obtain⟨t',rfl⟩:=ry;exact rule i j t t' s _ _ ⟨.bl (g i j),H,I,rfl,q⟩
def zm6(i j:Int):Prop:=0<=j/\j<=1000000/\i.natAbs<2 ^ 64
def CMul(i j:Int):Prop:=(-(2 ^ 64)<i/\i<2 ^ 64)\/(-(2 ^ 64)<j/\j<2 ^ 64)
theorem CMul.ok{i j:Int}(h:CMul i j):IntMulOk i j:=by
 rcases h with⟨h1,h2⟩ |⟨h1,h2⟩
 ·exact .of_left (intBits_le_64 h1 h2)
 ·exact .of_right (intBits_le_64 h1 h2)
theorem zhw:OpR X (binaryOp .Add) (rI0 λi j=>.int (i+j)):=zp1 λ_ _ _ _ _ _ _ q=>add_int q
theorem zm7:OpR X (binaryOp .Sub) (rI0 λi j=>.int (i-j)):=zp1 λ_ _ _ _ _ _ _ q=>sub_int q
theorem zm8:OpR X (binaryOp .Mult) (rI CMul λi j=>.int (i * j)):=opI λ_ _ _ _ _ _ _ hc q=>mul_int q hc.ok
theorem zei:OpR X (binaryOp .Mod) (rI (λ_ j=>0<j) λi j=>.int (i % j)):=opI λi j _ _ _ _ _ hc q=>by
 have h1:(0:Int)<j:=hc;exact mod_int' (by omega) (by rw[Int.fmod_eq_emod_of_nonneg i (by omega)];exact q)
theorem zm9:OpR X (binaryOp .Pow) (rI zm6 λi j=>.int (i ^ j.toNat)):=opI λ_ _ _ _ _ _ _ hc q=>pow_int_small hc.1 hc.2.1 hc.2.2 q
theorem unI{f:Value->Sem Value}{g:Int->Int}
  (rule:∀(i:Int) (t:Tok) (s:Shared) (Q:Value->Shared->Prop) (E:Value->Shared->Prop),Q (.int (g i) s.toks) { s with toks:=s.toks+1 }->wpAny (model X.prog X.w) X.A (f (.int i t)) Q E s) :
  UnR X f (rU λi=>.int (g i)):=by
 intro pins s σ H x v Q I rx h;obtain⟨i,rfl,q⟩:=h;obtain⟨t,rfl⟩:=rx;exact rule i t s _ _ ⟨.int (g i),H,I.tok _,⟨_,rfl⟩,q⟩
theorem zhx:UnR X (unaryOp .USub) (rU λi=>.int (-i)):=unI λ_ _ _ _ _ q=>neg_int q
end
def zna:V->V->Bool
 |.non,.non=>true|.non,.int _=>true|.int _,.non=>true|.non,.bl _=>true|.bl _,.non=>true|.non,.str _=>true|.str _,.non=>true
 |.int _,.int _=>true|.bl _,.bl _=>true|.str _,.str _=>true|.byt _,.byt _=>true
 |.int _,.str _=>true|.str _,.int _=>true|.bl _,.str _=>true|.str _,.bl _=>true
 |_,_=>false
def rEq:R2:=λx y H Q=>zna x y=true/\Q (.bl (decide (x=y))) H
def rNe:R2:=λx y H Q=>zna x y=true/\Q (.bl (!decide (x=y))) H
theorem zfu{i j:Int}:decide (V.int i=V.int j)=(i == j):=by
 rw[Bool.eq_iff_iff];simp
theorem zhy{i j:Bool}:decide (V.bl i=V.bl j)=(i == j):=by
 rw[Bool.eq_iff_iff];simp
theorem zfv{i j:Str}:decide (V.str i=V.str j)=(i == j):=by
 rw[Bool.eq_iff_iff];simp
theorem zfw{i j:Array UInt8}:decide (V.byt i=V.byt j)=(i.toList == j.toList):=by
 rw[Bool.eq_iff_iff]
 cases i
 cases j;simp
section
variable {X:Cx}{a b c:Expr}{ta tb tc:TE}{pos:Pos}
theorem zu{pins:List (Addr×Obj)}{σ:St}{H:Hp}{s:Shared}{Q:VK}{k k':Bool}(I:Inv X pins σ H s)(q:Q (.bl k) H)(e:k=k'):EP X pins σ Q (.bool k') s:=by
 subst e;exact⟨.bl k,H,I,rfl,q⟩
theorem zhz:OpR X (compareOp .Eq) rEq:=by
 intro pins s σ H x y v u Q I rx ry h;obtain⟨hs,q⟩:=h
 cases x with
 |non=>
  cases rx
  cases y with
  |non=>cases ry;exact PySem.EqNone.eq_none_none (zu I q (by simp))
  |bl j=>cases ry;exact PySem.EqNone.eq_none_bool (zu I q (by simp))
  |int j=>obtain⟨t',rfl⟩:=ry;exact PySem.EqNone.eq_none_int (zu I q (by simp))
  |str j=>obtain⟨t',rfl⟩:=ry;exact PySem.EqNone.eq_none_str (zu I q (by simp))
  |_=>exact absurd (show false=true from hs) Bool.false_ne_true
 |bl i=>
  cases rx
  cases y with
  |non=>cases ry;exact PySem.EqNone.eq_bool_none (zu I q (by simp))
  |bl j=>cases ry;exact eq_bool (zu I q zhy)
  |str j=>obtain⟨t',rfl⟩:=ry;exact PySem.EqMixed.eq_bool_str (zu I q (by simp))
  |_=>exact absurd (show false=true from hs) Bool.false_ne_true
 |int i=>
  obtain⟨t,rfl⟩:=rx
  cases y with
  |non=>cases ry;exact PySem.EqNone.eq_int_none (zu I q (by simp))
  |int j=>obtain⟨t',rfl⟩:=ry;exact eq_int (zu I q zfu)
  |str j=>obtain⟨t',rfl⟩:=ry;exact PySem.EqMixed.eq_int_str (zu I q (by simp))
  |_=>exact absurd (show false=true from hs) Bool.false_ne_true
 |str i=>
  obtain⟨t,rfl⟩:=rx
  cases y with
  |non=>cases ry;exact PySem.EqNone.eq_str_none (zu I q (by simp))
  |bl j=>cases ry;exact PySem.EqMixed.eq_str_bool (zu I q (by simp))
  |int j=>obtain⟨t',rfl⟩:=ry;exact PySem.EqMixed.eq_str_int (zu I q (by simp))
  |str j=>obtain⟨t',rfl⟩:=ry;exact eq_str (zu I q zfv)
  |_=>exact absurd (show false=true from hs) Bool.false_ne_true
 |byt i=>
  obtain⟨t,rfl⟩:=rx
  cases y with
  |byt j=>obtain⟨t',rfl⟩:=ry;exact PySem.W.eq_bytes (zu I q zfw)
  |_=>exact absurd (show false=true from hs) Bool.false_ne_true
 |_=>cases y <;> exact absurd (show false=true from hs) Bool.false_ne_true
theorem zme:OpR X (compareOp .NotEq) rNe:=by
 intro pins s σ H x y v u Q I rx ry h;obtain⟨hs,q⟩:=h
 cases x with
 |non=>
  cases rx
  cases y with
  |non=>cases ry;exact PySem.EqNone.ne_none_none (zu I q (by simp))
  |bl j=>cases ry;exact PySem.EqNone.ne_none_bool (zu I q (by simp))
  |int j=>obtain⟨t',rfl⟩:=ry;exact PySem.EqNone.ne_none_int (zu I q (by simp))
  |str j=>obtain⟨t',rfl⟩:=ry;exact PySem.EqNone.ne_none_str (zu I q (by simp))
  |_=>exact absurd (show false=true from hs) Bool.false_ne_true
 |bl i=>
  cases rx
  cases y with
  |non=>cases ry;exact PySem.EqNone.ne_bool_none (zu I q (by simp))
  |bl j=>cases ry;exact ne_bool (zu I q (congrArg not zhy))
  |str j=>obtain⟨t',rfl⟩:=ry;exact PySem.EqMixed.ne_bool_str (zu I q (by simp))
  |_=>exact absurd (show false=true from hs) Bool.false_ne_true
 |int i=>
  obtain⟨t,rfl⟩:=rx
  cases y with
  |non=>cases ry;exact PySem.EqNone.ne_int_none (zu I q (by simp))
  |int j=>obtain⟨t',rfl⟩:=ry;exact ne_int (zu I q (congrArg not zfu))
  |str j=>obtain⟨t',rfl⟩:=ry;exact PySem.EqMixed.ne_int_str (zu I q (by simp))
  |_=>exact absurd (show false=true from hs) Bool.false_ne_true
 |str i=>
  obtain⟨t,rfl⟩:=rx
  cases y with
  |non=>cases ry;exact PySem.EqNone.ne_str_none (zu I q (by simp))
  |bl j=>cases ry;exact PySem.EqMixed.ne_str_bool (zu I q (by simp))
  |int j=>obtain⟨t',rfl⟩:=ry;exact PySem.EqMixed.ne_str_int (zu I q (by simp))
  |str j=>obtain⟨t',rfl⟩:=ry;exact ne_str (zu I q (congrArg not zfv))
  |_=>exact absurd (show false=true from hs) Bool.false_ne_true
 |byt i=>
  obtain⟨t,rfl⟩:=rx
  cases y with
  |byt j=>obtain⟨t',rfl⟩:=ry;exact PySem.W.ne_bytes (zu I q (congrArg not zfw))
  |_=>exact absurd (show false=true from hs) Bool.false_ne_true
 |_=>cases y <;> exact absurd (show false=true from hs) Bool.false_ne_true
theorem zp2:OpR X (compareOp .Lt) (rI0 λi j=>.bl (decide (i<j))):=zm5 λ_ _ _ _ _ _ _ q=>lt_int q
theorem zmf:OpR X (compareOp .Gt) (rI0 λi j=>.bl (decide (j<i))):=zm5 λ_ _ _ _ _ _ _ q=>gt_int q
theorem zp3:OpR X (compareOp .GtE) (rI0 λi j=>.bl (decide (j<=i))):=zm5 λ_ _ _ _ _ _ _ q=>ge_int q
theorem yd(b:Expr){op:CmpOp}(h:op ≠ .In:=by decide)(h2:op ≠ .NotIn:=by decide):behindInMarks op b=false:=by
 have e1:(op == CmpOp.In)=false:=by cases op <;> first|rfl|exact absurd rfl h
 have e2:(op == CmpOp.NotIn)=false:=by cases op <;> first|rfl|exact absurd rfl h2
 cases b <;> simp[behindInMarks,e1,e2]
def zp4(t:TE):TT:=λσ H Q=>t σ H λx H'=>∃k,x=.bl k/\Q k H'
theorem zfx{op:CmpOp}{r:R2}(ho:OpR X (compareOp op) r)(ha:PE X a ta)(hb:PE X b tb)(hm:behindInMarks op b=false):PT X (.Compare a [op] [b] pos) (zp4 (tOp r ta tb)):=by
 intro pins s σ H Q I h;refine wpAny_isTrue_Compare1 (thn (ha pins s σ H _ I h) λv s1 ⟨x,H1,I1,r1,q1⟩=>thn (hb pins s1 σ H1 _ I1 q1) λu s2 ⟨y,H2,I2,r2,q2⟩=>
  thn (ho pins s2 σ H2 x y v u _ I2 r1 r2 q2) λc s3 ⟨z,H3,I3,r3,k,e,q3⟩=>?_) hm
 subst e
 cases r3;exact wpAny_truthy_bool ⟨H3,I3,q3⟩
def znb(K:PySem.W.Frag)(x:V)(H:Hp)(k:Bool):Prop :=
 match x with
 |.non=>k=false
 |.bl b=>k=b
 |.int i=>k=(i != 0)
 |.str y=>y.length<=sizeLine/\k=((y.length:Int) != 0)
 |.byt y=>y.size<=sizeLine/\k=((y.size:Int) != 0)
 |.ref p=>(∃xs,SqL K H p xs/\k = !xs.isEmpty)\/(∃xs,SqT K H p xs/\k = !xs.isEmpty)\/∃kvs,H p=some (.dK kvs)/\k = !kvs.isEmpty
 |_=>False
theorem zej{κ:Type}{kvs:List (κ×V)}{vs:List (κ×Value)}(r:KV kvs vs):(!vs.isEmpty) = !kvs.isEmpty:=by
 cases r <;> rfl
theorem zai{xs:List V}{its:List Value}(r:Vals xs its):(!its.toArray.isEmpty) = !xs.isEmpty:=by
 cases r <;> simp
theorem qo:(sizeLine:Nat)<2 ^ 63:=by rw[sizeLine_eq];decide
theorem znc:zrm X (λx H Q=>∃k,znb X.K x H k/\Q k H):=by
 intro pins s σ H x v Q I rx h;obtain⟨k,e,q⟩:=h;have hl:=qo;have hs:sizeLine=16777216:=sizeLine_eq
 cases x with
 |non=>
  cases rx;have e':k=false:=e;subst e';exact truthy_none ⟨H,I,q⟩
 |bl b=>
  cases rx;have e':k=b:=e;subst e';exact wpAny_truthy_bool ⟨H,I,q⟩
 |int i=>
  obtain⟨t,rfl⟩:=rx;have e':k=(i != 0):=e;subst e';exact PySem.P.truthy_int ⟨H,I,q⟩
 |str y=>
  obtain⟨t,rfl⟩:=rx;obtain⟨hy,e'⟩:y.length<=sizeLine/\k=((y.length:Int) != 0):=e;subst e';exact PySem.P.truthy_str (by omega) ⟨H,I.tok _,q⟩
 |byt y=>
  obtain⟨t,rfl⟩:=rx;obtain⟨hy,e'⟩:y.size<=sizeLine/\k=((y.size:Int) != 0):=e;subst e';exact PySem.W.truthy_bytes (by omega) ⟨H,I.tok _,q⟩
 |ref p=>
  cases rx;have e':(∃xs,SqL X.K H p xs/\k = !xs.isEmpty)\/(∃xs,SqT X.K H p xs/\k = !xs.isEmpty)\/∃kvs,H p=some (.dK kvs)/\k = !kvs.isEmpty:=e;rcases e' with⟨xs,hx,e'⟩ |⟨xs,hx,e'⟩ |⟨kvs,hx,e'⟩
  ·subst e';obtain⟨its,r,pl,hz⟩:=I.list hx;have hlen:=r.length;exact wpAny_truthy_list pl.isList (by simp only[List.size_toArray];omega) ⟨H,I.tok _,by rw[zai r];exact q⟩
  ·subst e';obtain⟨its,r,pl,hz⟩:=I.tuple hx;have hlen:=r.length;exact truthy_tuple pl (by simp only[List.size_toArray];omega) ⟨H,I.tok _,by rw[zai r];exact q⟩
  ·subst e';obtain⟨hz,hS,vs,r,m⟩:kvs.length<=sizeLine/\(p == sysModules)=false/\∃vs,KV kvs vs/\s.heap.DictOf (y8 X.prog X.w) p vs:=I.hok p _ hx;have hlen:kvs.length=vs.length:=Paired.length r;exact wpAny_truthy_dict hS m (by omega) ⟨H,I.tok _,by rw[zej r];exact q⟩
 |_=>exact(show False from e).elim
theorem zdb(ha:PE X a ta)(he:∀whole,isTrue a X.env whole=(do let v <-whole;standAt a.pos;holding [v] (truthy v))):
  PT X a (λσ H Q=>ta σ H λx H'=>∃k,znb X.K x H' k/\Q k H'):=by
 intro pins s σ H Q I h;exact isTrue_plain (thn (ha pins s σ H _ I h) λv s1 ⟨x,H1,I1,r1,q1⟩=>znc pins s1 σ H1 x v Q I1 r1 q1) (he _)
theorem zek:OpR X (binaryOp .Add) (λx y H Q=>∃i j,x=.str i/\y=.str j/\i.length+j.length<=sizeLine/\Q (.str (i++j)) H):=by
 intro pins s σ H x y v u Q I rx ry h;obtain⟨i,j,rfl,rfl,hz,q⟩:=h;obtain⟨t,rfl⟩:=rx;obtain⟨t',rfl⟩:=ry;exact add_str (λt' tk=>⟨.str (i++j),H,I.tok _,⟨_,rfl⟩,q⟩) hz
theorem zfy{x:V}{us:List Value}(r:Vals [x] us):∃u,us = [u]/\RelV x u:=by
 cases r with
 |cons r1 r2=>cases r2;exact⟨_,rfl,r1⟩
theorem zmg{x y:V}{us:List Value}(r:Vals [x,y] us):∃u w',us = [u,w']/\RelV x u/\RelV y w':=by
 cases r with
 |cons r1 r2=>
  cases r2 with
  |cons r3 r4=>cases r4;exact⟨_,_,rfl,r1,r3⟩
theorem zgv(hc:X.calm=true):xm X (.builtin "max") (λxs H Q=>∃i j,xs = [.int i,.int j]/\Q (.int (if j > i then j else i)) H):=by
 intro pins s σ H xs us Q I r h;obtain⟨i,j,rfl,q⟩:=h;obtain⟨u,w',rfl,⟨t,rfl⟩,⟨t',rfl⟩⟩:=zmg r;refine max_two_ints (I.ok.hd hc) λh' tk k=>⟨_,H,I.kept k,?_,q⟩
 by_cases hj:j > i
 ·rw[if_pos hj,if_pos hj];exact⟨_,rfl⟩
 ·rw[if_neg hj,if_neg hj];exact⟨_,rfl⟩
theorem zgw(hc:X.calm=true):xm X (.builtin "min") (λxs H Q=>∃i j,xs = [.int i,.int j]/\Q (.int (if j<i then j else i)) H):=by
 intro pins s σ H xs us Q I r h;obtain⟨i,j,rfl,q⟩:=h;obtain⟨u,w',rfl,⟨t,rfl⟩,⟨t',rfl⟩⟩:=zmg r;refine min_two_ints (I.ok.hd hc) λh' tk k=>⟨_,H,I.kept k,?_,q⟩
 by_cases hj:j<i
 ·rw[if_pos hj,if_pos hj];exact⟨_,rfl⟩
 ·rw[if_neg hj,if_neg hj];exact⟨_,rfl⟩
theorem zgx:xm X (.type "int") (λxs H Q=>(∃i,xs = [.int i]/\Q (.int i) H)\/∃k,xs = [.bl k]/\Q (.int (if k then 1 else 0)) H):=by
 intro pins s σ H xs us Q I r h;rcases h with⟨i,rfl,q⟩ |⟨k,rfl,q⟩
 ·obtain⟨u,rfl,t,rfl⟩:=zfy r;exact call_int_int ⟨.int i,H,I,⟨_,rfl⟩,q⟩
 ·obtain⟨u,rfl,r1⟩:=zfy r
  cases r1;exact call_int_bool ⟨.int (if k then 1 else 0),H,I.tok _,⟨_,rfl⟩,q⟩
def zrn(K:PySem.W.Frag)(x:V)(H:Hp)(n:Nat):Prop :=
 match x with
 |.str y=>y.length<=sizeLine/\n=y.length
 |.byt y=>y.size<=sizeLine/\n=y.size
 |.ref p=>(∃xs,SqL K H p xs/\n=xs.length)\/∃xs,SqT K H p xs/\n=xs.length
 |_=>False
theorem zh0:xm X (.builtin "len") (λxs H Q=>∃x n,xs = [x]/\zrn X.K x H n/\Q (.int n) H):=by
 intro pins s σ H xs us Q I r h;obtain⟨x,n,rfl,e,q⟩:=h;obtain⟨u,rfl,rx⟩:=zfy r;have hl:=qo;have hs:sizeLine=16777216:=sizeLine_eq
 cases x with
 |str y=>
  obtain⟨t,rfl⟩:=rx;obtain⟨hy,e'⟩:y.length<=sizeLine/\n=y.length:=e;subst e';exact len_str (by omega) ⟨.int _,H,I.tok _,⟨_,rfl⟩,q⟩
 |byt y=>
  obtain⟨t,rfl⟩:=rx;obtain⟨hy,e'⟩:y.size<=sizeLine/\n=y.size:=e;subst e';exact PySem.W.len_bytes (by omega) ⟨.int _,H,I.tok _,⟨_,rfl⟩,q⟩
 |ref p=>
  cases rx;have e':(∃xs,SqL X.K H p xs/\n=xs.length)\/∃xs,SqT X.K H p xs/\n=xs.length:=e;rcases e' with⟨xs,hx,e'⟩ |⟨xs,hx,e'⟩
  ·subst e';obtain⟨its,r',pl,hz⟩:=I.list hx;have hlen:=r'.length;exact Calls.call_len_list pl.isList (by simp only[List.size_toArray];omega) ⟨.int xs.length,H,I.tok _,⟨_,by simp only[List.size_toArray];rw[hlen]⟩,q⟩
  ·subst e';obtain⟨its,r',pl,hz⟩:=I.tuple hx;have hlen:=r'.length;exact len_tuple pl (by simp only[List.size_toArray];omega) ⟨.int xs.length,H,I.tok _,⟨_,by simp only[List.size_toArray];rw[hlen]⟩,q⟩
 |_=>exact(show False from e).elim
end
structure ObjM(h:Heap)(x dx C:Addr)(mA:Str->Option Value):Prop where
 obj:h.get? x=some (PySem.W.instObj C dx)
 ns:h.Ns1 dx mA
 ne:dx≠x
theorem zgy{h:Heap}{dx:Addr}{mA:Str->Option Value}(n:h.Ns1 dx mA):∃od,h.get? dx=some od/\∀name,PySem.W.lookIn name od=some (mA name):=by
 obtain⟨o,es,ep,ho,hd,hk,_,hm⟩:=n;refine⟨o,ho,λname=>?_⟩;have e:=hm name;unfold nsFind findBy at e;rw[<-Array.find?_toList]at e;unfold PySem.W.lookIn;rw[hd];dsimp only
 split
 ·rename_i y q
  rw[q]at e;exact congrArg some e
 ·rename_i q
  rw[q]at e;have a:es.toList.any (·.refKey)=false:=by
   rw[List.any_eq_false];intro y hy;obtain⟨z,t,hkey⟩:=hk y (Array.mem_toList_iff.mp hy);simp[DictEntry.refKey,hkey]
  have a':¬ es.toList.any (·.refKey)=true:=by rw[a];exact Bool.false_ne_true
  rw[if_neg a'];exact congrArg some e
theorem ObjM.look{h:Heap}{x dx C:Addr}{mA:Str->Option Value}(I:ObjM h x dx C mA):∃od,PySem.W.InstAt h x (PySem.W.instObj C dx) C (some od)/\∀name,PySem.W.lookIn name od=some (mA name) :=
 let ⟨od,ho,hl⟩:=zgy I.ns
 ⟨od,⟨I.obj,rfl,rfl,ho⟩,hl⟩
section
variable {prog:Program}{w:World}{A:Around}{E:Value->Shared->Prop}{s:Shared}{K:PySem.W.Frag}{x dx C f:Addr}{mA:Str->Option Value}{name:Str}{v:Value}
theorem zkr{expr:Bool}{Q:Value->Shared->Prop}(X:K.In s.heap)(I:ObjM s.heap x dx C mA)(hg:PySem.W.plainGet K C name=true)(hh:PySem.W.hasDictIn K C=true)
  (ha:PySem.W.findIn K (.ref C) name=some none) (hv:mA name=some v) (hv':PySem.W.handedIn v=true) (h:Q v { s with toks:=s.toks+1 }) :
  wpAny (model prog w) A (getAttr (.ref x) name expr) Q E s:=by
 obtain⟨od,J,hl⟩:=I.look;exact PySem.W.get_value X J (PySem.W.plainGet_of hg).1 (PySem.W.findObj_own hh ha rfl (by rw[hl,hv])) hv' h
theorem zh1{pl:Sem Bool}{Q:Value×List Value->Shared->Prop}(X:K.In s.heap)(I:ObjM s.heap x dx C mA)(hg:PySem.W.plainGet K C name=true)
  (hf:PySem.W.findIn K (.ref C) name=some (some (.ref f))) (ht:PySem.W.isFn K (.ref f)=true) (hv:mA name=none) (h:Q (.ref f,[.ref x]) s) :
  wpAny (model prog w) A (getMethod (.ref x) name pl) Q E s:=by
 obtain⟨od,J,hl⟩:=I.look;exact PySem.W.method_fn X J (PySem.W.plainGet_of hg).1 (PySem.W.plainGet_of hg).2 hf (beq_iff_eq.mp ht) (by show(PySem.W.lookIn name od).map (·.isSome)=some false;rw[hl,hv];rfl) h
theorem zks{ns:List Str}{Q:Unit->Shared->Prop}(X:K.In s.heap)(I:ObjM s.heap x dx C mA)
  (hs:PySem.W.findIn K (.ref C) "__setattr__" = some (some (.builtin "object.__setattr__"))) (hp:PySem.W.plainOver K C=true) (ht:PySem.W.takerIn K C name=some none) (hh:PySem.W.hasDictIn K C=true)
  (hw:PySem.Within mA ns) (hsz:ns.length<=sizeLine)
  (h:∀h',ObjM h' x dx C (λy=>if y=name then some v else mA y)->Heap.SameBut dx s.heap h'->Q () { s with heap:=h',toks:=s.toks+2 }) :
  wpAny (model prog w) A (setAttr (.ref x) name v) Q E s:=by
 obtain⟨od,J,hl⟩:=I.look;refine PySem.W.set_plain X J hs (PySem.W.osa_open (s:={ s with toks:=s.toks+1 }) (r:=none) X J hp ht λb=>?_);obtain⟨cd,hc,hd'⟩:=PySem.W.any_some hh;have hx:s.heap.get? x=some ⟨.ref C,some dx,.plain,#[]⟩:=I.obj;refine wpAny_bind (wpAny_pure (wpAny_bind (wpAny_bind (wpAny_loadPart hx (wpAny_bind (PySem.W.Looks.here (s:={ s with toks:=s.toks+1 }) (PySem.W.looks_clsIn X hc) ?_))))));rw[hd'];refine wpAny_pure (a:=some dx) (wpAny_bind (wpAny_pure (wpAny_bind ?_)));refine wpAny_nsSet1 (s:={ s with toks:=s.toks+1 }) I.ns λh' hn2 hs2=>?_;obtain⟨oD,esD,epD,hoD,hdD,hcD⟩:=hn2.count (PySem.Within.cons name v hw);refine wpAny_bind (wpAny_lookBehind hoD (by rw[hdD];exact pastItsLine_dict (Nat.le_trans hcD (by rw[List.length_cons];omega))) ?_);exact wpAny_pure (h _ ⟨(hs2.2 _ (Ne.symm I.ne)).trans I.obj,hn2,I.ne⟩ hs2)
theorem zh2{R:Result->Shared->Prop}{vs:List Value}{kw:List (Str×Value)}(X:K.In s.heap)(hm:PySem.W.makesIn K C=true)
  (hi:PySem.W.findIn K (.ref C) "__init__" = some (some (.ref f))) (hf:PySem.W.typeIn K (.ref f)=some (.type "function"))
  (h:codeAny (model prog w) (A.under (.builtin "type.__call__" ⟨.ref C::vs,kw⟩)) (.call (.ref f) ⟨.ref (s.heap.objs.size+1)::vs,kw⟩) (PySem.W.InitBack (s.heap.objs.size+1) R)
   { s with heap:=(s.heap.push PySem.W.emptyDict).push (PySem.W.instObj C s.heap.objs.size) }) :
  codeAny (model prog w) A (.call (.ref C) ⟨vs,kw⟩) R s:=by
 obtain⟨hh,g,d,t,os⟩:=s;exact PySem.W.make_core (PySem.W.makes_of X hm) (PySem.W.looks_findIn X hi) (λself=>PySem.W.bind_fn X self hf) (.inl rfl) h
end
def xz(f:Str)(v:V):List (Str×V)->List (Str×V)
 |[]=>[(f,v)]
 |(g,x)::r=>if g=f then (g,v)::r else (g,x)::xz f v r
theorem jw(f g:Str)(v:V):∀fs:List (Str×V),(xz f v fs).lookup g=if g=f then some v else fs.lookup g
 |[]=>by
  show List.lookup g [(f,v)]=_
  by_cases h:g=f
  ·have hb:(g == f)=true:=beq_iff_eq.mpr h;simp only[List.lookup,hb,if_pos h]
  ·have hb:(g == f)=false:=beq_eq_false_iff_ne.mpr h;simp only[List.lookup,hb,if_neg h]
 |(k,x)::r=>by
  have ih:=jw f g v r;rw[show xz f v ((k,x)::r)=(if k=f then (k,v)::r else (k,x)::xz f v r) from rfl]
  by_cases hk:k=f
  ·rw[if_pos hk]
   by_cases h:g=k
   ·have hb:(g == k)=true:=beq_iff_eq.mpr h;simp only[List.lookup,hb,if_pos (h.trans hk)]
   ·have hb:(g == k)=false:=beq_eq_false_iff_ne.mpr h;simp only[List.lookup,hb,if_neg (λe:g=f=>h (e.trans hk.symm))]
  ·rw[if_neg hk]
   by_cases h:g=k
   ·have hb:(g == k)=true:=beq_iff_eq.mpr h;simp only[List.lookup,hb,if_neg (λe:g=f=>hk (h.symm.trans e))]
   ·have hb:(g == k)=false:=beq_eq_false_iff_ne.mpr h;simp only[List.lookup,hb];exact ih
theorem jf(f:Str)(v:V):∀fs:List (Str×V),f∈(xz f v fs).map (·.1)/\∀g,g∈fs.map (·.1)->g∈(xz f v fs).map (·.1)
 |[]=>⟨by simp[xz],λg h=>by simp at h⟩
 |(k,x)::r=>by
  obtain⟨i1,i2⟩:=jf f v r;rw[show xz f v ((k,x)::r)=(if k=f then (k,v)::r else (k,x)::xz f v r) from rfl]
  by_cases hk:k=f
  ·rw[if_pos hk];subst hk;exact⟨by simp,λg h=>by simpa using h⟩
  ·rw[if_neg hk];refine⟨?_,λg h=>?_⟩
   ·rw[List.map_cons];exact List.mem_cons_of_mem _ i1
   ·rw[List.map_cons]at h ⊢;rcases List.mem_cons.mp h with e|e
    ·exact List.mem_cons.mpr (.inl e)
    ·exact List.mem_cons_of_mem _ (i2 g e)
theorem jx(f:Str)(v:V):∀fs:List (Str×V),(xz f v fs).length<=fs.length+1
 |[]=>by simp[xz]
 |(k,x)::r=>by
  have ih:=jx f v r;rw[show xz f v ((k,x)::r)=(if k=f then (k,v)::r else (k,x)::xz f v r) from rfl]
  by_cases hk:k=f
  ·rw[if_pos hk,List.length_cons,List.length_cons];omega
  ·rw[if_neg hk,List.length_cons,List.length_cons];omega
theorem RelO.some_of{v:V}{o:Option Value}(r:RelO (some v) o):∃u,o=some u/\RelV v u:=by
 cases o with
 |none=>exact(show False from r).elim
 |some u=>exact⟨u,rfl,r⟩
theorem RelO.none_of{o:Option Value}(r:RelO none o):o=none:=by
 cases o with
 |none=>rfl
 |some u=>exact(show False from r).elim
theorem zgz{v:V}{u:Value}(r:RelV v u):PySem.W.handedIn u=true:=by
 cases v with
 |non=>cases (show u=Value.none from r);rfl
 |bl b=>cases (show u=Value.bool b from r);rfl
 |int i=>obtain⟨t,e⟩:=(show ∃t,u=Value.int i t from r);cases e;rfl
 |str x=>obtain⟨t,e⟩:=(show ∃t,u=Value.str x t from r);cases e;rfl
 |byt b=>obtain⟨t,e⟩:=(show ∃t,u=Value.bytes b t from r);cases e;rfl
 |flt b=>obtain⟨t,e⟩:=(show ∃t,u=Value.float b t from r);cases e;rfl
 |ref a=>cases (show u=Value.ref a from r);rfl
 |ty n=>cases (show u=Value.type n from r);rfl
section
variable {P:Program}{w:World}{H H':Hp}{h h':Heap}{a C dx:Addr}{fs fs':List (Str×V)}
theorem zcg(hok:HOk P w H h)(e:H a=some (.ins C dx fs)):∃mA,ObjM h a dx C mA/\(∀f,RelO (fs.lookup f) (mA f))/\PySem.Within mA (fs.map (·.1))/\fs.length<=1000/\H dx=some (.own a):=by
 obtain⟨d,z,ne,ob,mA,n,r,q⟩:=(show ObjOk P w H h a (.ins C dx fs) from hok a _ e)
 exact⟨mA,⟨ob,n,ne⟩,r,q,z,d⟩
end
structure Cls(K:PySem.W.Frag)(C:Addr):Prop where
 pg:PySem.W.plainGet K C Str.empty=true
 hd:PySem.W.hasDictIn K C=true
 po:PySem.W.plainOver K C=true
 sa:PySem.W.findIn K (.ref C) "__setattr__" = some (some (.builtin "object.__setattr__"))
theorem Cls.get{K:PySem.W.Frag}{C:Addr}(c:Cls K C)(f:Str):PySem.W.plainGet K C f=true:=c.pg
def NoAttr(K:PySem.W.Frag)(C:Addr)(f:Str):Prop:=PySem.W.findIn K (.ref C) f=some none
theorem NoAttr.taker{K:PySem.W.Frag}{C:Addr}{f:Str}(n:NoAttr K C f):PySem.W.takerIn K C f=some none:=by
 unfold PySem.W.takerIn;rw[show PySem.W.findIn K (.ref C) f=some none from n];rfl
structure Con(K:PySem.W.Frag)(C:Addr)(f:Str)(v:V)(u:Value):Prop where
 at_:PySem.W.findIn K (.ref C) f=some (some u)
 rel:RelV v u
 get:PySem.W.specialIn K u "__get__" = some none
 cp:PySem.W.copiedNames.contains f=false
structure zkt(K:PySem.W.Frag)(C:Addr)(m:Str)(f:Addr):Prop where
 at_:PySem.W.findIn K (.ref C) m=some (some (.ref f))
 fn:PySem.W.isFn K (.ref f)=true
 kp:PySem.W.keepIn K (.ref f)=true
section
variable {X:Cx}{pins:List (Addr×Obj)}{σ:St}{H:Hp}{s:Shared}{a C dx:Addr}{fs:List (Str×V)}{f:Str}{v:V}{A:Around}{E:Value->Shared->Prop}
theorem zel{b:Bool}{Q:Value->Shared->Prop}(I:Inv X pins σ H s)(e:H a=some (.ins C dx fs))(c:Cls X.K C)(n:NoAttr X.K C f)(l:fs.lookup f=some v)
  (h:∀u s',Inv X pins σ H s'->RelV v u->Q u s'):wpAny (model X.prog X.w) A (getAttr (.ref a) f b) Q E s:=by
 obtain⟨mA,O,r,_,_,_⟩:=zcg I.hok e;obtain⟨u,hu,ru⟩:=RelO.some_of (v:=v) (o:=mA f) (by rw[<-l];exact r f);exact zkr I.kIn O (c.get f) c.hd n hu (zgz ru) (h u _ (I.tok _) ru)
theorem zen{m:Str}{g:Addr}{pl:Sem Bool}{Q:Value×List Value->Shared->Prop}(I:Inv X pins σ H s)(e:H a=some (.ins C dx fs))(c:Cls X.K C)(k:zkt X.K C m g)(l:fs.lookup m=none)
  (h:Q (.ref g,[.ref a]) s):wpAny (model X.prog X.w) A (getMethod (.ref a) m pl) Q E s:=by
 obtain⟨mA,O,r,_,_,_⟩:=zcg I.hok e;have hn:mA m=none:=RelO.none_of (by rw[<-l];exact r m);exact zh1 I.kIn O (c.get m) k.at_ k.fn hn h
theorem zeo{y:V}{u:Value}{Q:Unit->Shared->Prop}(I:Inv X pins σ H s)(e:H a=some (.ins C dx fs))(c:Cls X.K C)(n:NoAttr X.K C f)(hl:fs.length<1000)(ry:RelV y u)
  (h:∀s',Inv X pins σ (upd H a (.ins C dx (xz f y fs))) s'->Q () s'):wpAny (model X.prog X.w) A (setAttr (.ref a) f u) Q E s:=by
 obtain⟨mA,O,r,wi,_,ho⟩:=zcg I.hok e;have hz:(fs.map (·.1)).length<=sizeLine:=by rw[List.length_map,sizeLine_eq];omega
 refine zks I.kIn O c.sa c.po n.taker c.hd wi hz λh' O' sb=>h _ ?_;have hd:∃o,h'.get? dx=some o:=let ⟨o,_,_,e',_⟩:=O'.ns;⟨o,e'⟩;refine I.write (x:=a) (e:=dx) (by rw[e];exact True.intro) (.inr ho) (λb q hb z=>(sb.2 b hb).trans z) hd ?_;refine⟨by rw[zd O.ne];exact ho,?_,O.ne,O'.obj,_,O'.ns,λg=>?_,λg hg=>?_⟩
 ·have:=jx f y fs;omega
 ·show RelO ((xz f y fs).lookup g) (if g=f then some u else mA g);rw[jw]
  by_cases q:g=f
  ·rw[if_pos q,if_pos q];exact ry
  ·rw[if_neg q,if_neg q];exact r g
 ·by_cases q:g=f
  ·rw[q];exact(jf f y fs).1
  ·refine(jf f y fs).2 g (wi g λz=>hg ?_);show(if g=f then some u else mA g)=none;rw[if_neg q];exact z
theorem Inv.made(I:Inv X pins σ H s):Inv X pins σ (upd (upd H s.heap.objs.size (.own (s.heap.objs.size+1))) (s.heap.objs.size+1) (.ins C s.heap.objs.size []))
  { s with heap:=(s.heap.push PySem.W.emptyDict).push (PySem.W.instObj C s.heap.objs.size) }:=by
 have e1:(s.heap.push PySem.W.emptyDict).get? s.heap.objs.size=some PySem.W.emptyDict:=Heap.get?_push_size s.heap rfl;have e2:((s.heap.push PySem.W.emptyDict).push (PySem.W.instObj C s.heap.objs.size)).get? (s.heap.objs.size+1)=some (PySem.W.instObj C s.heap.objs.size):=by
  have:=Heap.get?_push_size (s.heap.push PySem.W.emptyDict) (o:=PySem.W.instObj C s.heap.objs.size) rfl
  rwa [Heap.size_push]at this
 have e3:(s.heap.push PySem.W.emptyDict).Ns s.heap.objs.size (λ_=>none):=⟨PySem.W.emptyDict,#[],_,e1,rfl,(λe he=>absurd he (by simp)),λ_=>rfl⟩
 have I1:=I.laid (a:=s.heap.objs.size) (o:=.own (s.heap.objs.size+1)) (h':=s.heap.push PySem.W.emptyDict) (t':=s.toks) (λb u q=>Heap.get?_push_of_some _ q) (Nat.le_refl _) ⟨_,e1⟩;refine I1.laid (a:=s.heap.objs.size+1) (o:=.ins C s.heap.objs.size []) (t':=s.toks) (λb u q=>Heap.get?_push_of_some _ q) (Nat.le_of_eq (Heap.size_push _ _)) ?_;have ne:s.heap.objs.size≠s.heap.objs.size+1:=Nat.ne_of_lt (Nat.lt_succ_self _);refine⟨by rw[zd ne,ze],Nat.zero_le _,ne,e2,λ_=>none,(Heap.Ns1.of_empty e3).at λo q=>Heap.get?_push_of_some _ q,λ_=>True.intro,λy hy=>absurd rfl hy⟩
theorem zku{prog:Program}{w:World}{env:Env}{e:Expr}{f:Str}{pos:Pos}{s:Shared}{Q:Value->Shared->Prop}(hb:attributeBase e f env (eval e env)=eval e env)
  (h:wpAny (model prog w) A (eval e env) (λo s₁=>wpAny (model prog w) A (getAttr o f true) Q E s₁) E s):wpAny (model prog w) A (eval (.Attribute e f pos) env) Q E s :=
 Attribute_any_ h (by rw[arm_eval_Attribute,hb])
end
def zro(K:PySem.W.Frag)(ta:TE)(f:Str):TE:=λσ H Q=>ta σ H λx H1=>∃a C dx fs v,x=.ref a/\H1 a=some (.ins C dx fs)/\Cls K C/\NoAttr K C f/\fs.lookup f=some v/\Q v H1
def zrp(K:PySem.W.Frag)(ta tv:TE)(f:Str):TS:=λD σ H=>tv σ H λy H1=>ta σ H1 λx H2=>∃a C dx fs,x=.ref a/\H2 a=some (.ins C dx fs)/\Cls K C/\NoAttr K C f/\fs.length<1000 /\
 D.nx σ (upd H2 a (.ins C dx (xz f y fs)))
section
variable {X:Cx}{o e value:Expr}{f:Str}{pos pos' tpos:Pos}{ta tv:TE}
theorem znd(he:PE X e ta)(hb:attributeBase e f X.env (eval e X.env)=eval e X.env):PE X (.Attribute e f pos) (zro X.K ta f):=by
 intro pins s σ H Q I h;refine zku hb (thn (he pins s σ H _ I h) λu s1 ⟨x,H1,I1,rx,a,C,dx,fs,v,ex,ea,c,n,l,q⟩=>?_);subst ex;obtain rfl:u=Value.ref a:=rx;exact zel I1 ea c n l λu' s2 I2 ru=>⟨v,H1,I2,ru,q⟩
theorem zne(ha:PE X o ta)(hv:PE X value tv)(hs:swapsWith value (some (.Attribute o f pos')) pos.line X.env=pure false):PS X (.Assign [.Attribute o f pos'] value pos) (zrp X.K ta tv f):=by
 intro pins s σ H D I h;refine plainObj_wpAny_Assign_Attribute (thn (hv pins s σ H _ I h) λu s1 ⟨y,H1,I1,ry,q⟩=>thn (ha pins s1 σ H1 _ I1 q) λov s2 ⟨x,H2,I2,rx,a,C,dx,fs,ex,ea,c,n,l,q2⟩=>?_) hs;subst ex;obtain rfl:ov=Value.ref a:=rx;exact zeo I2 ea c n l ry λs3 I3=>⟨σ,_,I3,q2⟩
end
section
variable {X:Cx}{pins:List (Addr×Obj)}{σ:St}{H:Hp}{s:Shared}{A:Around}{E:Value->Shared->Prop}{Q:Value->Shared->Prop}{c:Value}{b:Bool}
inductive zaj(K:PySem.W.Frag)(H:Hp):V->Value->Prop where
 |non:zaj K H .non (.type "NoneType")
 |bl (x:Bool):zaj K H (.bl x) (.type "bool")
 |int (i:Int):zaj K H (.int i) (.type "int")
 |str (x:Str):zaj K H (.str x) (.type "str")
 |flt (x:UInt64):zaj K H (.flt x) (.type "float")
 |lst {a:Addr}{xs:List V} (e:H a=some (.lst xs)):zaj K H (.ref a) (.type "list")
 |frz {a:Addr}{o:Obj}{xs:List V} (e:H a=some (.frz o (.lst xs))):zaj K H (.ref a) (.type "list")
 |tup {a:Addr}{xs:List V} (e:H a=some (.tup xs)):zaj K H (.ref a) (.type "tuple")
 |dK {a:Addr}{kvs:List (Key×V)} (e:H a=some (.dK kvs)):zaj K H (.ref a) (.type "dict")
 |dT {a:Addr}{kvs:List (List Key×V)} (e:H a=some (.dT kvs)):zaj K H (.ref a) (.type "dict")
 |ins {a C dx:Addr}{fs:List (Str×V)} (e:H a=some (.ins C dx fs)) (cl:Cls K C) (ha:PySem.W.findIn K (.ref C) "__class__" = some (some (.builtin "object.__class__")))
   (hn:PySem.W.specialIn K (.builtin "object.__class__") "__get__" = some (some (.builtin "getset_descriptor.__get__"))) (htk:PySem.W.takesIn K (.builtin "object.__class__")=some true)
   (hm:PySem.W.mroIn K C (.type "object")=some true):zaj K H (.ref a) (.ref C)
end
structure Room(k:Nat)(A:Around):Prop where
 hd:A.handled=none
 dp:A.depth+3 * k+5<recursionLimit
 un:A.units+16 * k+200<cLine
 gd:A.guards=some []
theorem Room.mono{j k:Nat}{A:Around}(r:Room k A)(h:j<=k):Room j A:=⟨r.hd,by have:=r.dp;omega,by have:=r.un;omega,r.gd⟩
theorem Room.deeper{k:Nat}{A:Around}(r:Room (k+1) A)(env:Env):Room k (A.deeper env) :=
 ⟨r.hd,by have:=r.dp;show A.depth+1+3 * k+5<_;omega,by have:=r.un;show A.units+3+16 * k+200<_;omega,r.gd⟩
theorem zep{A:Around}{C:Addr}{us:List Value}{kw:List (Str×Value)}:(A.under (.builtin "type.__call__" ⟨.ref C::us,kw⟩)).depth=A.depth+1:=by
 first|rfl|simp[Around.under,Code.weight,Code.isCreation,Code.isGuard,Code.isCaller,Code.frames,Code.isFrame,guardIds]
theorem zeq{A:Around}{C:Addr}{us:List Value}{kw:List (Str×Value)}:(A.under (.builtin "type.__call__" ⟨.ref C::us,kw⟩)).units=A.units+1:=by
 first|rfl|simp[Around.under,Code.cUnits,Code.frames,Code.isFrame]
theorem Room.make{k:Nat}{A:Around}(r:Room (k+1) A)(C:Addr)(us:List Value)(kw:List (Str×Value)):Room k (A.under (.builtin "type.__call__" ⟨.ref C::us,kw⟩)) :=
 ⟨r.hd,by have:=r.dp;rw[zep];omega,by have:=r.un;rw[zeq];omega,by first|exact r.gd |(simp[Around.under,Code.isGuard,guardIds];exact r.gd)⟩
theorem Room.depth{k:Nat}{A:Around}(r:Room k A):A.depth<recursionLimit:=by have:=r.dp;omega
theorem Room.units{k:Nat}{A:Around}(r:Room k A):A.units+64<cLine:=by have:=r.un;omega
def zp5:TA:=λ_ H Q=>Q [] H
def zp6(ta:TE)(tr:TA):TA:=λσ H Q=>ta σ H λx H1=>tr σ H1 λxs H2=>Q (x::xs) H2
section
variable {X:Cx}{e:Expr}{es:List Expr}{te:TE}{t:TA}{pos:Pos}
theorem ye:PA X [] zp5:=λ_ _ _ _ H Q I h=>Calls.spliced_nil ⟨[],H,I,.nil,h⟩
theorem zn(ha:PE X e te)(hr:PA X es t)(hs:starEach (e::es) X.env=(false,eval e X.env)::starEach es X.env:=by rfl):PA X (e::es) (zp6 te t):=by
 intro pos pins s σ H Q I h;rw[hs];show wpAny _ _ (spliced ((false,eval e X.env)::backTo pos (starEach es X.env))) _ _ s;refine Calls.spliced_cons (thn (ha pins s σ H _ I h) λu s1 ⟨x,H1,I1,r1,q1⟩=>?_);exact thn (hr pos pins s1 σ H1 _ I1 q1) λus s2 ⟨xs,H2,I2,r2,q2⟩=>⟨x::xs,H2,I2,.cons r1 r2,q2⟩
def zrq(t:TA):TE:=λσ H Q=>t σ H λxs H1=>xs.length<=sizeLine/\∀p,H1 p=none->Q (.ref p) (upd H1 p (.tup xs))
def zrr(t:TA):TE:=λσ H Q=>t σ H λxs H1=>xs.length<=sizeLine/\∀p,H1 p=none->Q (.ref p) (upd H1 p (.lst xs))
theorem zer{x1}(h:PA X es t):PE X (.Tuple es x1 pos) (zrq t):=by
 intro pins s σ H Q I hq;refine wpAny_Tuple_spliced (thn (h pos pins s σ H _ I hq) λus s1 ⟨xs,H1,I1,r,z,q⟩=>⟨by rw[<-r.length];exact z,?_⟩);have hf:H1 s1.heap.objs.size=none:=I1.hok.fresh (Nat.le_refl _);refine⟨.ref s1.heap.objs.size,upd H1 s1.heap.objs.size (.tup xs),I1.laid (t':=s1.toks) (λb u e=>Heap.get?_push_of_some _ e) (Nat.le_refl _) ?_,rfl,q _ hf⟩;exact⟨z,us,r,⟨_,Heap.get?_push_size _ rfl,rfl,⟨_,rfl⟩,rfl⟩⟩
theorem zh3(h:PA X es t):PE X (.List es pos) (zrr t):=by
 intro pins s σ H Q I hq;refine wpAny_List_spliced (thn (h pos pins s σ H _ I hq) λus s1 ⟨xs,H1,I1,r,z,q⟩=>⟨by rw[<-r.length];exact z,?_⟩);have hf:H1 s1.heap.objs.size=none:=I1.hok.fresh (Nat.le_refl _);refine⟨.ref s1.heap.objs.size,upd H1 s1.heap.objs.size (.lst xs),I1.laid (t':=s1.toks) (λb u e=>Heap.get?_push_of_some _ e) (Nat.le_refl _) ?_,rfl,q _ hf⟩;exact⟨z,us,0,r,Heap.get?_push_size _ rfl⟩
end
abbrev Sp:=List V->Hp->VK->XK->Prop
abbrev CXT:=List Env->Hp->Shared->XK->Value->Shared->Prop
structure Env0(P:Program)(w:World)(K:PySem.W.Frag)(mg:Str->Option Value)(base:Heap)(A:Around)(outer:List Env)(s:Shared)(H:Hp):Prop where
 frames:A.frames=some outer
 mod:Mod K mg base
 bs:∀b o,base.get? b=some o->s.heap.get? b=some o/\H b=none
 bsz:base.objs.size<=s.heap.objs.size
 funs:s.heap.FunFrames base outer
 frf:∀b∈frs outer,H b=none
 hok:HOk P w H s.heap
 bare:AllBare s.gens
def CE(outer:List Env)(P:Program)(w:World)(H:Hp)(s:Shared)(Q:VK)(u:Value)(s':Shared):Prop :=
 ∃v H',s'.os=s.os/\AllBare s'.gens/\Un (frs outer) [] H H' s.heap s'.heap/\HOk P w H' s'.heap/\RelV v u/\Q v H'
def CR(CX:CXT)(outer:List Env)(P:Program)(w:World)(H:Hp)(s:Shared)(Q:VK)(E:XK)(r:Result)(s':Shared):Prop :=
 match r with
 |.ok (.ret u)=>CE outer P w H s Q u s'
 |.ok _=>False
 |.error e=>CX outer H s E e s'
structure FnOk(P:Program)(w:World)(K:PySem.W.Frag)(mg:Str->Option Value)(base:Heap)(CX:CXT)(k:Nat)(f:Addr)(fd:FuncData)(ps:List Str)(sp:Sp):Prop where
 len:∀vs H Q E,sp vs H Q E->vs.length=ps.length
 run:∀(A:Around) (outer:List Env) (s:Shared) (H:Hp) (args:Args) (us:List Value) (vs:List V) (Q:VK) (E:XK),Room k A->Env0 P w K mg base A outer s H->BindsTo s fd args (ps.zip us)->Vals vs us->sp vs H Q E ->
  codeAny (model P w) A (.call (.ref f) args) (CR CX outer P w H s Q E) s
theorem FnOk.mono{P:Program}{w:World}{K:PySem.W.Frag}{mg:Str->Option Value}{base:Heap}{CX:CXT}{j k:Nat}{f:Addr}{fd:FuncData}{ps:List Str}{sp:Sp}(F:FnOk P w K mg base CX j f fd ps sp)(h:j<=k):
  FnOk P w K mg base CX k f fd ps sp:=⟨F.len,λA outer s H args us vs Q E hr=>F.run A outer s H args us vs Q E (hr.mono h)⟩
theorem FnOk.imp{P:Program}{w:World}{K:PySem.W.Frag}{mg:Str->Option Value}{base:Heap}{CX:CXT}{k:Nat}{f:Addr}{fd:FuncData}{ps:List Str}{sp sp':Sp}(F:FnOk P w K mg base CX k f fd ps sp)
  (h:∀vs H Q E,sp' vs H Q E->sp vs H Q E):FnOk P w K mg base CX k f fd ps sp' :=
 ⟨λvs H Q E q=>F.len vs H Q E (h _ _ _ _ q),λA outer s H args us vs Q E hr he hb hv hs=>F.run A outer s H args us vs Q E hr he hb hv (h _ _ _ _ hs)⟩
theorem Env0.make{P:Program}{w:World}{K:PySem.W.Frag}{mg:Str->Option Value}{base:Heap}{A:Around}{outer:List Env}{s:Shared}{H:Hp}(e:Env0 P w K mg base A outer s H)(C:Addr)(us:List Value)(kw:List (Str×Value)):
  Env0 P w K mg base (A.under (.builtin "type.__call__" ⟨.ref C::us,kw⟩)) outer s H:=⟨by first|exact e.frames |(simpa[Around.under,Code.envs,Code.isFrame,pushEnvs]using e.frames),e.mod,e.bs,e.bsz,e.funs,e.frf,e.hok,e.bare⟩
section
variable {X:Cx}{pins:List (Addr×Obj)}{σ:St}{H:Hp}{s s':Shared}
theorem Inv.env0(I:Inv X pins σ H s):Env0 X.prog X.w X.K X.mg X.base X.A X.stack s H :=
 ⟨I.ok.frames,I.ok.mod,I.bs,Nat.le_trans I.ok.bsz I.sz,I.stack,I.stkFree,I.hok,I.bare⟩
theorem Inv.after{Q:VK}{u:Value}(I:Inv X pins σ H s)(h:CE X.stack X.prog X.w H s Q u s'):EP X pins σ Q u s':=by
 obtain⟨v,H',os,bare,un,hok,r,q⟩:=h;obtain⟨hh,g,d,t,os'⟩:=s';obtain rfl:os'=s.os:=os;exact⟨v,H',I.call (h':=hh) (g':=g) (d':=d) (t':=t) (ch:=[]) un hok bare (λb z=>absurd z (by simp)),r,q⟩
end
def zfz(sp:Sp)(dvs:List V)(E:XK)(t:TA):TE:=λσ H Q=>t σ H λvs H1=>sp (vs++dvs) H1 Q E
def zp7(C:Addr)(m:Str)(sp:Sp)(dvs:List V)(E:XK)(ta:TE)(t:TA):TE:=λσ H Q=>ta σ H λx H1=>∃a dx fs,x=.ref a/\H1 a=some (.ins C dx fs)/\fs.lookup m=none /\
 t σ H1 λvs H2=>sp (x::(vs++dvs)) H2 Q E
def zp8(C:Addr)(sp:Sp)(dvs:List V)(E:XK)(t:TA):TE:=λσ H Q=>t σ H λvs H1=>∀x dx,H1 x=none->H1 dx=none->dx≠x ->
 sp (.ref x::(vs++dvs)) (upd (upd H1 dx (.own x)) x (.ins C dx [])) (λv H2=>v=.non/\Q (.ref x) H2) E
def Binds(K:PySem.W.Frag)(fd:FuncData)(ps:List Str)(ds:List Value):Prop :=
 ∀(s:Shared) (us:List Value),K.In s.heap->(us++ds).length=ps.length->BindsTo s fd ⟨us,[]⟩ (ps.zip (us++ds))
theorem Binds.all{K:PySem.W.Frag}{fd:FuncData}{ps:List Str}(h:∀us:List Value,us.length=ps.length->bindArgs fd ⟨us,[]⟩=pure (ps.zip us)):Binds K fd ps []:=λs us _ hl=>by
 rw[List.append_nil]at hl ⊢;exact .of_eq (h us hl)
def qp(CX:CXT)(X:Cx)(E:XK):Prop:=∀(pins:List (Addr×Obj)) (σ:St) (H:Hp) (s:Shared) (e:Value) (s':Shared),Inv X pins σ H s->CX X.stack H s E e s'->X.xe e s'
section
variable {X:Cx}{CX:CXT}{k:Nat}{f C:Addr}{fd:FuncData}{ps:List Str}{sp:Sp}{dvs:List V}{ds:List Value}{E:XK}{x m:Str}{p pos apos:Pos}{e o:Expr}{es:List Expr}{ta:TE}{t:TA}
theorem zh4{pins:List (Addr×Obj)}{σ:St}{H:Hp}{s:Shared}{Q:VK}{us:List Value}{vs:List V}(F:FnOk X.prog X.w X.K X.mg X.base CX k f fd ps sp)(hr:Room k X.A)(hb:Binds X.K fd ps ds)(hd:Vals dvs ds)(hx:qp CX X E)
  (I:Inv X pins σ H s) (r:Vals vs us) (h:sp (vs++dvs) H Q E):wpAny (model X.prog X.w) X.A (call (.ref f) us) (EP X pins σ Q) X.xe s:=by
 have r2:Vals (vs++dvs) (us++ds):=r.append hd;have hl:(us++ds).length=ps.length:=by rw[<-r2.length];exact F.len _ _ _ _ h
 refine wpAny_call (codeAny_mono (F.run X.A X.stack s H ⟨us,[]⟩ (us++ds) (vs++dvs) Q E hr I.env0 (hb s us I.kIn hl) r2 h) λr s' hq=>?_)
 cases r with
 |error e=>exact hx pins σ H s e s' I hq
 |ok fl=>
  cases fl with
  |ret u=>exact I.after hq
  |next=>exact False.elim hq
  |brk=>exact False.elim hq
  |cont=>exact False.elim hq
theorem h8(F:FnOk X.prog X.w X.K X.mg X.base CX k f fd ps sp)(hr:Room k X.A)(hg:Gl X x)(hm:X.mg x=some (.ref f))(hk:PySem.W.keepIn X.K (.ref f)=true)(hb:Binds X.K fd ps ds)(hd:Vals dvs ds)(hx:qp CX X E)
  (ha:PA X (e::es) t) (hdb:(x ==("__debug__" : Str))=false:=by decide) (he:starEach (e::es) X.env=(false,eval e X.env)::starEach es X.env:=by rfl) (hpl:(backTo pos (starEach es X.env)).any (·.1)=false:=by rfl) :
  PE X (.Call (.Name x p) (e::es) [] pos) (zfz sp dvs E t):=by
 intro pins s σ H Q I h;refine wpAny_Call_Name_kw (vz I hg hm ?_ hdb);refine PySem.W.callWith_K (h₀:=X.base) I.ok.mod.kin hk (thn (ha pos pins s σ H _ I h) λus s1 ⟨vs,H1,I1,r,q⟩=>⟨I1.kIn,?_⟩) he hpl;exact zh4 F hr hb hd hx I1 r q
theorem zh5{pl:Sem Bool}(he:PE X o ta)(c:Cls X.K C)(hm:zkt X.K C m f)(F:FnOk X.prog X.w X.K X.mg X.base CX k f fd ps sp)(hr:Room k X.A)(hb:Binds X.K fd ps ds)(hd:Vals dvs ds)(hx:qp CX X E)
  (ht:eval (.Call (.Attribute o m apos) [] [] pos) X.env=(do
   let ov <-eval o X.env
   standAt apos.atName
   let (f,first) <-holding [ov] (getMethod ov m pl)
   callWith pos f first (backTo pos (starEach [] X.env)) (backToKw pos (keywordEach [] X.env))):=by rfl) :
  PE X (.Call (.Attribute o m apos) [] [] pos) (zp7 C m sp dvs E ta zp5):=by
 intro pins s σ H Q I h;refine PySem.W.methodCall_KW (pl:=pl) (thn (he pins s σ H _ I h) λu s1 ⟨x,H1,I1,rx,a,dx,fs,ex,ea,l,q⟩=>?_) ht;subst ex;obtain rfl:u=Value.ref a:=rx;refine zen I1 ea c hm l ?_;exact PySem.W.callWith_K0 (first:=[.ref a]) I1.kIn hm.kp (zh4 (us:=[.ref a]) (vs:=[.ref a]) F hr hb hd hx I1 (.cons rfl .nil) q)
structure Mk(K:PySem.W.Frag)(C f:Addr):Prop where
 makes:PySem.W.makesIn K C=true
 init:PySem.W.findIn K (.ref C) "__init__" = some (some (.ref f))
 fn:PySem.W.isFn K (.ref f)=true
 kp:PySem.W.keepIn K (.ref C)=true
theorem zh6{pins:List (Addr×Obj)}{σ:St}{H:Hp}{s:Shared}{Q:VK}{us:List Value}{vs:List V}(M:Mk X.K C f)(F:FnOk X.prog X.w X.K X.mg X.base CX k f fd ps sp)(hr:Room (k+1) X.A)(hb:Binds X.K fd ps ds)(hd:Vals dvs ds)
  (hx:qp CX X E) (I:Inv X pins σ H s) (r:Vals vs us)
  (h:∀x dx,H x=none->H dx=none->dx≠x->sp (.ref x::(vs++dvs)) (upd (upd H dx (.own x)) x (.ins C dx [])) (λv H2=>v=.non/\Q (.ref x) H2) E) :
  wpAny (model X.prog X.w) X.A (call (.ref C) us) (EP X pins σ Q) X.xe s:=by
 have hq:=h (s.heap.objs.size+1) s.heap.objs.size (I.hok.fresh (Nat.le_succ _)) (I.hok.fresh (Nat.le_refl _)) (Nat.ne_of_lt (Nat.lt_succ_self _));have I2:=Inv.made (C:=C) I;have r2:Vals (V.ref (s.heap.objs.size+1)::(vs++dvs)) (Value.ref (s.heap.objs.size+1)::(us++ds)):=.cons rfl (r.append hd);have hl:(Value.ref (s.heap.objs.size+1)::us++ds).length=ps.length:=by
  have e:=r2.length;rw[F.len _ _ _ _ hq]at e;exact e.symm
 refine wpAny_call (zh2 (f:=f) I.kIn M.makes M.init (beq_iff_eq.mp M.fn) (codeAny_mono (F.run _ X.stack _ _ ⟨Value.ref (s.heap.objs.size+1)::us,[]⟩ (Value.ref (s.heap.objs.size+1)::(us++ds)) _ _ E (hr.make C us [])
  (I2.env0.make C us []) (hb _ (Value.ref (s.heap.objs.size+1)::us) I2.kIn hl) r2 hq) λr s' hq'=>?_))
 cases r with
 |error e=>exact hx pins σ _ _ e s' I2 hq'
 |ok fl=>
  cases fl with
  |ret u=>
   obtain⟨v,H',I3,rv,ev,q3⟩:=I2.after hq';subst ev;exact⟨rv,⟨V.ref (s.heap.objs.size+1),H',I3,rfl,q3⟩⟩
  |next=>exact False.elim hq'
  |brk=>exact False.elim hq'
  |cont=>exact False.elim hq'
theorem zkv(M:Mk X.K C f)(F:FnOk X.prog X.w X.K X.mg X.base CX k f fd ps sp)(hr:Room (k+1) X.A)(hg:Gl X x)(hm:X.mg x=some (.ref C))(hb:Binds X.K fd ps ds)(hd:Vals dvs ds)(hx:qp CX X E)
  (ha:PA X (e::es) t) (hdb:(x ==("__debug__" : Str))=false:=by decide) (he:starEach (e::es) X.env=(false,eval e X.env)::starEach es X.env:=by rfl) (hpl:(backTo pos (starEach es X.env)).any (·.1)=false:=by rfl) :
  PE X (.Call (.Name x p) (e::es) [] pos) (zp8 C sp dvs E t):=by
 intro pins s σ H Q I h;refine wpAny_Call_Name_kw (vz I hg hm ?_ hdb);refine PySem.W.callWith_K (h₀:=X.base) I.ok.mod.kin M.kp (thn (ha pos pins s σ H _ I h) λus s1 ⟨vs,H1,I1,r,q⟩=>⟨I1.kIn,?_⟩) he hpl;exact zh6 M F hr hb hd hx I1 r q
end
section
variable {X:Cx}{CX:CXT}{k:Nat}{f C:Addr}{fd:FuncData}{ps ks:List Str}{sp:Sp}{E:XK}{x m:Str}{p pos apos kpos:Pos}{e o:Expr}{es:List Expr}{kws:List Keyword}{te ta:TE}{t tk:TA}{nm:Option Str}
structure zrs(K:PySem.W.Frag)(fd:FuncData)(ps ks:List Str)(g:List Value->List Value->List Value)(gV:List V->List V->List V):Prop where
 to:∀(s:Shared) (us ws:List Value),K.In s.heap->(g us ws).length=ps.length->BindsTo s fd ⟨us,ks.zip ws⟩ (ps.zip (g us ws))
 rel:∀{vs:List V}{us:List Value}{zs:List V}{ws:List Value},Vals vs us->Vals zs ws->Vals (gV vs zs) (g us ws)
variable {g:List Value->List Value->List Value}{gV:List V->List V->List V}
end
structure zm(N P:List Str)(sc:Scope):Prop where
 kind:sc.kind=.function
 co:sc.isCoroutine=false
 gen:sc.isGenerator=false
 nd:N.Nodup
 pre:N.take P.length=P
 par:∀x∈P,sc.names.lookup x=some .local\/sc.names.lookup x=some .cell
 nofree:∀y∈sc.names,y.2 ≠ .free
theorem zbs{kindOf:Str->Option NameKind}{x:Str}:∀{binds:List (Str×Value)}{m:Str->Option Value},(∀v,(x,v)∉binds)->bindL kindOf binds m x=m x
 |[],_,_=>rfl
 |(n,v)::r,m,h=>by
  unfold bindL;rw[zbs λw hw=>h w (List.mem_cons_of_mem _ hw)]
  split
  ·have:x≠n:=by rintro rfl;exact h v List.mem_cons_self
   simp[this]
  ·rfl
theorem zbt{kindOf:Str->Option NameKind}{x:Str}:∀{binds:List (Str×Value)}{m:Str->Option Value},(∀v,(x,v)∉binds)->bindC kindOf binds m x=m x
 |[],_,_=>rfl
 |(n,v)::r,m,h=>by
  unfold bindC;rw[zbt λw hw=>h w (List.mem_cons_of_mem _ hw)]
  split
  ·rfl
  ·have:x≠n:=by rintro rfl;exact h v List.mem_cons_self
   simp[this]
theorem zbu{kindOf:Str->Option NameKind}{x:Str}{v:Value}:∀{P:List Str}{vs:List Value}{i:Nat}{m:Str->Option Value},P.Nodup->P[i]?=some x->vs[i]?=some v->kindOf x=some .local ->
  bindL kindOf (P.zip vs) m x=some v
 |[],_,_,_,_,h,_,_=>by simp at h
 |_::_,[],_,_,_,_,h,_=>by simp at h
 |p::P,w::vs,0,m,nd,h1,h2,hk=>by
  simp at h1 h2;subst h1;subst h2;show bindL kindOf ((p,w)::P.zip vs) m p=_;unfold bindL;rw[zbs λv hv=>(List.nodup_cons.mp nd).1 (List.of_mem_zip hv).1,if_pos hk];simp
 |p::P,w::vs,i+1,m,nd,h1,h2,hk=>by
  show bindL kindOf ((p,w)::P.zip vs) m x=_;unfold bindL;exact zbu (i:=i) (List.nodup_cons.mp nd).2 (by simpa using h1) (by simpa using h2) hk
theorem zbv{kindOf:Str->Option NameKind}{x:Str}{v:Value}:∀{P:List Str}{vs:List Value}{i:Nat}{m:Str->Option Value},P.Nodup->P[i]?=some x->vs[i]?=some v->kindOf x≠some .local ->
  bindC kindOf (P.zip vs) m x=some v
 |[],_,_,_,_,h,_,_=>by simp at h
 |_::_,[],_,_,_,_,h,_=>by simp at h
 |p::P,w::vs,0,m,nd,h1,h2,hk=>by
  simp at h1 h2;subst h1;subst h2;show bindC kindOf ((p,w)::P.zip vs) m p=_;unfold bindC;rw[zbt λv hv=>(List.nodup_cons.mp nd).1 (List.of_mem_zip hv).1,if_neg hk];simp
 |p::P,w::vs,i+1,m,nd,h1,h2,hk=>by
  show bindC kindOf ((p,w)::P.zip vs) m x=_;unfold bindC;exact zbv (i:=i) (List.nodup_cons.mp nd).2 (by simpa using h1) (by simpa using h2) hk
def xo(N:List Str)(vs:List V):St:=vs.map some++List.replicate (N.length-vs.length) none
def y6(CX:CXT)(P:Program)(w:World)(K:PySem.W.Frag)(mg:Str->Option Value)(base:Heap)(N:List Str)(qual:Str)(scope:Scope)(f:Addr)(cd:Value)(A:Around)(outer:List Env)(s:Shared)(H:Hp)(E:XK):Cx where
 prog:=P
 w:=w
 K:=K
 mg:=mg
 base:=base
 A:=A.deeper (envOfC qual scope s.heap.objs.size f cd)
 N:=N
 s₀:=s
 H₀:=H
 env:=envOfC qual scope s.heap.objs.size f cd
 outer:=outer
 stack:=envOfC qual scope s.heap.objs.size f cd::outer
 ex:=[]
 calm:=true
 fn:=λ_=>true
 pn:=[]
 xe:=λe s'=>wpAny (model P w) (A.deeper (envOfC qual scope s.heap.objs.size f cd)) (leaving (envOfC qual scope s.heap.objs.size f cd) e) (λ_ s''=>CX outer H s E e s'') (λe' s''=>CX outer H s E e' s'') s'
theorem zdc{sc:Scope}{n:Nat}{x:Str}(h:sc.names.lookup x=some .cell):∃c,(cellsFrom n sc.names []).lookup x=some c:=by
 have q:=PySem.W.cellsFrom_some sc.names n [] (.inl h);exact Option.isSome_iff_exists.mp q
theorem zbw{CX:CXT}{P:Program}{w:World}{K:PySem.W.Frag}{mg:Str->Option Value}{base:Heap}{N ps:List Str}{qual:Str}{scope:Scope}{f:Addr}{cd:Value}{A:Around}{outer:List Env}{s s1:Shared}{H:Hp}{E:XK}{us:List Value}{vs:List V}
  (S:zm N ps scope) (hd:A.handled=none) (e0:Env0 P w K mg base A outer s H) (hl:vs.length=ps.length) (r:Vals vs us)
  (x:InCallC s s.heap.objs.size (bindL (envOfC qual scope s.heap.objs.size f cd).kindOf (ps.zip us) λ_=>none) (cellsFrom (s.heap.objs.size+1) scope.names []) (bindC (envOfC qual scope s.heap.objs.size f cd).kindOf (ps.zip us) λ_=>none) s1) :
  Inv (y6 CX P w K mg base N qual scope f cd A outer s H E) [] (xo N vs) H s1:=by
 have hpl:ps.length<=N.length:=by have:=congrArg List.length S.pre;rw[List.length_take]at this;omega
 obtain⟨h1,tk,rfl,hk⟩:=x.done;have noA:∀b:Addr,b∉(y6 CX P w K mg base N qual scope f cd A outer s H E).ex:=λb z=>absurd (show b∈([]:List Addr) from z) (by simp);refine⟨⟨e0.mod,S.kind,rfl,rfl,Nat.le_refl _,λy z c h1 h2=>?_,λy hy=>?_,λy c _ h=>?_,λ_=>hd,Around.frames_deeper e0.frames,.inr ⟨rfl,rfl⟩,λb z=>absurd z (noA b),e0.bs,e0.bsz,λb _ _=>noA b,λb z=>absurd z (noA b),e0.funs,e0.frf⟩,
  rfl,e0.bare,Un.kept hk,⟨_,x.toInCall.ns,λi y v h1 h2 h3=>?_⟩,λy c h=>⟨_,x.cell y c h⟩,e0.hok.fresh (Nat.le_refl _),λy c h=>?_,λp hp=>absurd (show p∈([]:List (Addr×Obj)) from hp) (by simp),e0.hok.kept hk,?_⟩
 ·exact name_of_addr x.apart (PySem.mem_of_lookup h1) (PySem.mem_of_lookup h2)
 ·have hy:scope.names.lookup y=some .cell\/scope.names.lookup y=some .free:=hy;rcases hy with hy|hy
  ·exact zdc hy
  ·exact absurd rfl (S.nofree _ (PySem.mem_of_lookup hy))
 ·exact Nat.le_of_lt (x.above y c (PySem.mem_of_lookup h))
 ·have hi:i<vs.length:=by
   unfold xo at h2
   by_cases hi:i<vs.length
   ·exact hi
   ·rw[List.getElem?_append_right (by simpa using hi)]at h2;rw[List.getElem?_replicate]at h2
    split at h2 <;> cases h2
  have ha:vs[i]?=some v:=by
   unfold xo at h2;rw[List.getElem?_append_left (by simpa using hi),List.getElem?_map]at h2
   cases e:vs[i]? with
   |none=>rw[e]at h2;cases h2
   |some a=>rw[e]at h2;cases h2;rfl
  obtain⟨u,hu,rv⟩:=r.get ha;have hp:ps[i]?=some y:=by
   rw[<-S.pre,List.getElem?_take_of_lt (by omega)];exact h1
  have ndP:ps.Nodup:=by rw[<-S.pre];exact S.nd.sublist (List.take_sublist _ _)
  refine⟨u,rv,?_⟩;rcases S.par y (List.mem_of_getElem? hp) with k|k
  ·exact .inl ⟨k,zbu ndP hp hu k⟩
  ·obtain⟨c,e⟩:=zdc (n:=s.heap.objs.size+1) k;refine .inr ⟨.inl k,c,e,?_⟩;have q:=x.cell y c e;rw[zbv ndP hp hu (by show scope.names.lookup y≠_;rw[k];decide)]at q;exact q
 ·exact e0.hok.fresh (Nat.le_of_lt (x.above y c (PySem.mem_of_lookup h)))
 ·unfold xo;show _=N.length;rw[List.length_append,List.length_map,List.length_replicate];omega
theorem zh7{CX:CXT}{P:Program}{w:World}{K:PySem.W.Frag}{mg:Str->Option Value}{base:Heap}{k:Nat}{f:Addr}{name qual:Str}{params:Arguments}{body:List Stmt}{scope:Scope}{dV kV doc pm cdv ct oc:Value}{an od:Option Addr}
  {osl:Array (Option Value)}{N ps:List Str}{sp:Sp} (lk:K.lookup f=some ⟨oc,od,.func (PySem.W.fnOf name qual params body scope dV kV doc pm an cdv ct),osl⟩) (hcd:PySem.W.codeIn K cdv qual=true) (S:zm N ps scope)
  (len:∀vs H Q E,sp vs H Q E->vs.length=ps.length)
  (hbody:∀(A:Around) (outer:List Env) (s:Shared) (H:Hp) (vs:List V) (Q:VK) (E:XK),Room k (A.deeper (envOfC qual scope s.heap.objs.size f cdv))->sp vs H Q E ->
   ∃t,PSs (y6 CX P w K mg base N qual scope f cdv A outer s H E) body t/\t { nx:=λ_ H'=>Q .non H',rt:=Q } (xo N vs) H) :
  FnOk P w K mg base CX (k+1) f (PySem.W.fnOf name qual params body scope dV kV doc pm an cdv ct) ps sp:=by
 refine⟨len,λA outer s H args us vs Q E hr e0 hb r hsp=>?_⟩;have hl:=len _ _ _ _ hsp;have KX:K.In s.heap:=e0.mod.kin.keeps λb o e=>(e0.bs b o e).1;have lim:s.heap.NoLimit:=e0.mod.nolimit.keeps λb o e=>(e0.bs b o e).1;have hkind:∀y∈ps.zip us,scope.names.lookup y.1=some .local\/(scope.names.lookup y.1=some .cell/\((cellsFrom (s.heap.objs.size+1) scope.names []).lookup y.1).isSome=true):=λ⟨n,v⟩ hy=>by
  rcases S.par n (List.of_mem_zip hy).1 with q|q
  ·exact .inl q
  ·exact .inr ⟨q,PySem.W.cellsFrom_some _ _ _ (.inl q)⟩
 refine codeAny_call_function hr.depth (KX _ _ lk) rfl S.co S.gen rfl (PySem.W.codeRec_of KX hcd) (hb _ _ _ _ ?_);refine wpAny_newFunctionEnv_cells S.kind hkind λenv he s1 x=>?_;subst he;refine⟨lim.keeps x.toInCall.keep,codeAny_func ?_⟩;obtain⟨t,ht,hq⟩:=hbody A outer s H vs Q E (hr.deeper _) hsp;have I:Inv (y6 CX P w K mg base N qual scope f cdv A outer s H E) [] (xo N vs) H s1:=zbw S hr.hd e0 hl r x;refine wpAny_mono (ht [] s1 (xo N vs) H _ I hq) (λfl s' hs=>?_) λe s' hs=>hs;have fin:∀{σ':St}{H':Hp}{v:V}{u:Value},Inv (y6 CX P w K mg base N qual scope f cdv A outer s H E) [] σ' H' s'->RelV v u->Q v H'->CE outer P w H s Q u s' :=
  λ{σ' H' v u} J rv q=>⟨v,H',J.os,J.bare,J.base,J.hok,rv,q⟩
 cases fl with
 |ret u=>
  obtain⟨v,σ',H',J,rv,q⟩:=hs;exact fin J rv q
 |next=>
  obtain⟨σ',H',J,q⟩:=hs;exact fin (v:=V.non) (u:=Value.none) J rfl q
 |brk=>
  obtain⟨_,_,_,q⟩:=hs;exact False.elim q
 |cont=>
  obtain⟨_,_,_,q⟩:=hs;exact False.elim q
section
variable {X:Cx}{x:Str}{p pos:Pos}{e:Expr}{es:List Expr}{t:TA}{id T:String}{r:List V->Hp->VK->Prop}
def tCB(r:List V->Hp->VK->Prop)(t:TA):TE:=λσ H Q=>t σ H λvs H1=>r vs H1 Q
theorem wb(hc:xm X (.builtin id) r)(hg:Gl X x)(hm:X.mg x=none)(hv:bootBuiltins x=some (.builtin id))(ha:PA X (e::es) t)(hn:x ≠ "__name__" := by decide)(hdb:(x ==("__debug__" : Str))=false:=by decide)
  (he:starEach (e::es) X.env=(false,eval e X.env)::starEach es X.env:=by rfl) (hpl:(backTo pos (starEach es X.env)).any (·.1)=false:=by rfl):PE X (.Call (.Name x p) (e::es) [] pos) (tCB r t):=by
 intro pins s σ H Q I h;refine wpAny_Call_Name_kw (zag I hg hm hv ?_ hn hdb);exact PyProof.Rows.callWith_builtin1 (thn (ha pos pins s σ H _ I h) λus s1 ⟨vs,H1,I1,r1,q1⟩=>hc pins s1 σ H1 vs us Q I1 r1 q1) he hpl
theorem zbx(hc:xm X (.type T) r)(hg:Gl X x)(hm:X.mg x=none)(hv:bootBuiltins x=some (.type T))(ha:PA X (e::es) t)(hn:x ≠ "__name__" := by decide)(hdb:(x ==("__debug__" : Str))=false:=by decide)
  (he:starEach (e::es) X.env=(false,eval e X.env)::starEach es X.env:=by rfl) (hpl:(backTo pos (starEach es X.env)).any (·.1)=false:=by rfl):PE X (.Call (.Name x p) (e::es) [] pos) (tCB r t):=by
 intro pins s σ H Q I h;refine wpAny_Call_Name_kw (zag I hg hm hv ?_ hn hdb);exact PyProof.Rows.callWith_type1 (thn (ha pos pins s σ H _ I h) λus s1 ⟨vs,H1,I1,r1,q1⟩=>hc pins s1 σ H1 vs us Q I1 r1 q1) he hpl
end
end L2
namespace HT
open PySem PyProof.Rows
section
open PySem.SeqAt
open PySem.AutoSeq1 (wpAny_loadPart')
open PySem.MeetsSeq PySem.MeetsSeq2 PySem.MeetsSeq3
end
section
variable {prog:Program}{w:World}{A:Around}{E:Value->Shared->Prop}{s:Shared}
theorem cat_tup{t b:Addr}{vs ws:List Value}{Q:Value->Shared->Prop}(ht:IsTup s.heap t vs.toArray)(hb:IsTup s.heap b ws.toArray)(hv:vs ≠ [])
  (h1:ws = []->Q (.ref t) s) (h2:ws ≠ []->Q (.ref s.heap.objs.size) { s with heap:=s.heap.push { cls:=.type "tuple",data:=.seq (vs++ws).toArray } })
  (hsz:vs.length+ws.length<=sizeLine):wpAny (model prog w) A (binaryOp .Add (.ref t) (.ref b)) Q E s:=by
 obtain⟨⟨cls,dd,data,sl⟩,ho,hc,n,hd⟩:=id ht;obtain⟨⟨cls2,dd2,data2,sl2⟩,ho2,hc2,n2,hd2⟩:=id hb;simp only at hc hd hc2 hd2;subst hc hd hc2 hd2;have e:vs.toArray++ws.toArray=(vs++ws).toArray:=by simp
 by_cases hw:ws = []
 ·exact concat_meets ⟨_,ho,rfl⟩ ⟨_,ho2,rfl⟩ noFill_tuple_add seq_tuple_add PySem.F.slot_tuple_add PySem.F.entry_tuple_add (PySem.F.args_tuple_add_2 _ _)
   (tuple_addW1 t b vs.toArray ws.toArray n n2 dd dd2 sl sl2 (by simpa using hv) (by simp[hw])) ⟨ho,ho2,h1 hw⟩
 ·refine concat_meets ⟨_,ho,rfl⟩ ⟨_,ho2,rfl⟩ noFill_tuple_add seq_tuple_add PySem.F.slot_tuple_add PySem.F.entry_tuple_add (PySem.F.args_tuple_add_2 _ _)
   (tuple_addW2 t b vs.toArray ws.toArray n n2 dd dd2 sl sl2 (by simpa using hv) (by simpa using hw) (by rw[List.size_toArray,List.size_toArray];exact hsz)) ⟨ho,ho2,?_⟩
  rw[e];exact h2 hw
def sIx(n d:Nat):Option Int->Nat
 |none=>d
 |some v=>if v<0 then (v+(n:Int)).toNat else min v.toNat n
end
end HT
namespace L2
open PySem PySem.Spec PyProof.Rows
abbrev TO:=St->Hp->(Option Int->Hp->Prop)->Prop
def PO(X:Cx)(e:Option Expr)(t:TO):Prop :=
 ∀(pins:List (Addr×Obj)) (s:Shared) (σ:St) (H:Hp) (Q:Option Int->Hp->Prop),Inv X pins σ H s->t σ H Q ->
  wpAny (model X.prog X.w) X.A (evalPart e X.env) (λu s'=>∃o H',Inv X pins σ H' s'/\IsPart u o/\Q o H') X.xe s
def zkw:TO:=λ_ H Q=>Q none H
def zp9(t:TE):TO:=λσ H Q=>t σ H λx H1=>∃i,x=.int i/\Q (some i) H1
section
variable {X:Cx}{e:Expr}{te:TE}{lo hi:Option Expr}{tl th:TO}{pos p2:Pos}
theorem zkx:PO X none zkw:=by
 intro pins s σ H Q I h;rw[evalPart_none];exact wpAny_pure ⟨none,H,I,.none,h⟩
theorem zky(h:PE X e te):PO X (some e) (zp9 te):=by
 intro pins s σ H Q I hw;rw[evalPart_some];refine thn (h pins s σ H _ I hw) λu s1 ⟨x,H1,I1,r1,q1⟩=>?_;obtain⟨i,rfl,q⟩:=q1;obtain⟨t,rfl⟩:=r1;exact⟨some i,H1,I1,.int i t,q⟩
def SlR(X:Cx)(r:V->Option Int->Option Int->Hp->VK->Prop):Prop :=
 ∀(pins:List (Addr×Obj)) (s:Shared) (σ:St) (H:Hp) (x:V) (v vl vu:Value) (lo hi:Option Int) (sl:Addr) (Q:VK),Inv X pins σ H s->RelV x v->s.heap.IsSliceOf sl vl vu .none->IsPart vl lo->IsPart vu hi->r x lo hi H Q ->
  ∃T id,typeLookup (.type T) "__getitem__" = pure (some (.builtin id))/\s.TypeIs v T/\wpAny (model X.prog X.w) X.A (getItem v (.ref sl)) (EP X pins σ Q) X.xe s
def tSl(r:V->Option Int->Option Int->Hp->VK->Prop)(te:TE)(tl th:TO):TE:=λσ H Q=>te σ H λx H1=>tl σ H1 λl H2=>th σ H2 λu H3=>r x l u H3 Q
theorem zdd{r:V->Option Int->Option Int->Hp->VK->Prop}(hr:SlR X r)(he:PE X e te)(hl:PO X lo tl)(hu:PO X hi th):PE X (.Subscript e (.Slice lo hi none p2) pos) (tSl r te tl th):=by
 intro pins s σ H Q I h;refine Subscript_ (thn (he pins s σ H _ I h) λv s1 ⟨x,H1,I1,r1,q1⟩=>?_);refine wpAny_Slice (thn (hl pins s1 σ H1 _ I1 q1) λvl s2 ⟨l,H2,I2,pl,q2⟩=>thn (hu pins s2 σ H2 _ I2 q2) λvu s3 ⟨u,H3,I3,pu,q3⟩=>?_);rw[evalPart_none];refine wpAny_pure ?_;have I4:Inv X pins σ H3 { s3 with heap:=s3.heap.push { cls:=.type "slice",data:=.fields #[vl,vu,.none] } }:=I3.kept (t':=s3.toks) λb ob q=>Heap.get?_push_of_some _ q;obtain⟨T,id,hT,ht,hg⟩:=hr pins { s3 with heap:=s3.heap.push { cls:=.type "slice",data:=.fields #[vl,vu,.none] } } σ H3 x v vl vu l u s3.heap.objs.size Q I4 r1 (Heap.IsSliceOf.new ..) pl pu q3;show wpAny (model X.prog X.w) X.A (subscriptTail e (.Slice lo hi none p2) v (.ref s3.heap.objs.size)) (EP X pins σ Q) X.xe { s3 with heap:=s3.heap.push { cls:=.type "slice",data:=.fields #[vl,vu,.none] } };exact tail_any (ops:=[.ref s3.heap.objs.size,v]) ht hT hg (by with_unfolding_all rfl)
def zg0(xs:List V)(lo hi:Option Int):List V:=(xs.drop (HT.sIx xs.length 0 lo)).take (HT.sIx xs.length xs.length hi-HT.sIx xs.length 0 lo)
theorem zde(xs:List V)(lo hi:Option Int):(zg0 xs lo hi).length<=xs.length:=by
 unfold zg0;rw[List.length_take,List.length_drop];omega
theorem Vals.nil_iff{xs:List V}{us:List Value}(r:Vals xs us):us = []↔xs = []:=by
 cases r with
 |nil=>simp
 |cons _ _=>simp
end
def ixN(n:Nat)(i:Int):Option Nat:=if 0<=i then (if i<n then some i.toNat else none) else if -(n:Int)<=i then some (i+n).toNat else none
def atI{α:Type}(xs:List α)(i:Int):Option α:=(ixN xs.length i).bind λj=>xs[j]?
theorem zf0{n:Nat}{i:Int}{j:Nat}(h:ixN n i=some j):seqIndex? i n=some j/\j<n/\-(n:Int)<=i/\i<n:=by
 unfold ixN at h
 by_cases h0:0<=i
 ·rw[if_pos h0]at h
  by_cases h1:i<n
  ·rw[if_pos h1]at h;have e:i.toNat=j:=Option.some.inj h;exact⟨by rw[seqIndex_of h0 h1,e],by omega,by omega,h1⟩
  ·rw[if_neg h1]at h;cases h
 ·rw[if_neg h0]at h
  by_cases h1 : -(n:Int)<=i
  ·rw[if_pos h1]at h;have e:(i+n).toNat=j:=Option.some.inj h;exact⟨by rw[seqIndex_neg (by omega) h1,e],by omega,h1,by omega⟩
  ·rw[if_neg h1]at h;cases h
theorem zch{α:Type}{xs:List α}{i:Int}{v:α}(h:atI xs i=some v):∃j,seqIndex? i xs.length=some j/\xs[j]?=some v/\j<xs.length/\-(xs.length:Int)<=i/\i<xs.length:=by
 unfold atI at h
 cases e:ixN xs.length i with
 |none=>rw[e]at h;cases h
 |some j=>
  rw[e]at h;obtain⟨h1,h2,h3,h4⟩:=zf0 e;exact⟨j,h1,h,h2,h3,h4⟩
theorem zf1{α:Type}{xs:List α}{j:Nat}{v:α}(h:xs[j]?=some v):atI xs (j:Int)=some v:=by
 have hj:j<xs.length:=(List.getElem?_eq_some_iff.mp h).1;have e:ixN xs.length (j:Int)=some j:=by
  unfold ixN;rw[if_pos (by omega),if_pos (by omega)];simp
 unfold atI;rw[e];exact h
def kj(b:Expr):Prop:=∀o i,subscripted b false o i=operate [o,i] (getItem o i)
def IxR(X:Cx)(r:R2):Prop :=
 ∀(value slice:Expr) (pins:List (Addr×Obj)) (s:Shared) (σ:St) (H:Hp) (x y:V) (v u:Value) (Q:VK),Inv X pins σ H s->RelV x v->RelV y u->r x y H Q ->
  subscripted slice false v u=operate [v,u] (getItem v u)->wpAny (model X.prog X.w) X.A (subscriptTail value slice v u) (EP X pins σ Q) X.xe s
def MtR(X:Cx)(id:String)(r:V->List V->Hp->VK->Prop):Prop :=
 ∀(pins:List (Addr×Obj)) (s:Shared) (σ:St) (H:Hp) (x:V) (xs:List V) (v:Value) (us:List Value) (Q:VK),Inv X pins σ H s->RelV x v->Vals xs us->r x xs H Q ->
  wpAny (model X.prog X.w) X.A (call (.builtin id) (v::us)) (EP X pins σ Q) X.xe s
section
variable {X:Cx}{a b:Expr}{ta tb:TE}{pos:Pos}
theorem IxR.or{r r':R2}(h:IxR X r)(h':IxR X r'):IxR X (λx y H Q=>r x y H Q\/r' x y H Q):=by
 intro value slice pins s σ H x y v u Q I rx ry q hs;rcases q with q|q
 ·exact h value slice pins s σ H x y v u Q I rx ry q hs
 ·exact h' value slice pins s σ H x y v u Q I rx ry q hs
theorem wx{r:R2}(hr:IxR X r)(ha:PE X a ta)(hb:PE X b tb)(hs:kj b):PE X (.Subscript a b pos) (tOp r ta tb):=by
 intro pins s σ H Q I h;exact Subscript_ (zp0 ha hb I h λv u s2 x y H2 I2 rx ry q=>hr a b pins s2 σ H2 x y v u Q I2 rx ry q (hs _ _))
def zqa(K:PySem.W.Frag):R2:=λx y H Q=>∃p xs i v,x=.ref p/\y=.int i/\SqL K H p xs/\atI xs i=some v/\Q v H
def zqb(K:PySem.W.Frag):R2:=λx y H Q=>∃p xs i v,x=.ref p/\y=.int i/\SqT K H p xs/\atI xs i=some v/\Q v H
def zqc:R2:=λx y H Q=>∃z i c,x=.str z/\y=.int i/\z.length<=sizeLine/\atI z.cps.toList i=some c/\Q (.str ⟨#[c]⟩) H
theorem ix_list:IxR X (zqa X.K):=by
 intro value slice pins s σ H x y v u Q I rx ry h hs;obtain⟨p,xs,i,z,rfl,rfl,hq,he,q⟩:=h
 cases rx;obtain⟨t,rfl⟩:=ry;obtain⟨its,r,pl,hz⟩:=I.list hq;obtain⟨j,h1,h2,h3,h4,h5⟩:=zch he;obtain⟨w,ew,rw'⟩:=r.get h2;have hl:=r.length;have hn:=qo;have fin:EP X pins σ Q w s:=⟨z,H,I,rw',q⟩
 by_cases h0:0<=i
 ·have hj:i.toNat=j:=by
   rw[seqIndex_of h0 h5]at h1;exact Option.some.inj h1
  exact item_listR pl.isList h0 (by omega) (by rw[hj];simpa using ew) fin hs
 ·have hj:(i+(its.toArray.size:Int)).toNat=j:=by
   rw[seqIndex_neg (by omega) h4]at h1;rw[List.size_toArray,<-hl];exact Option.some.inj h1
  exact subscriptTail_builtinR (x:=w) pl.isList.typeIs slot_list_getitem.lookup
   (wpAny_getItem_list_neg (Q:=λr s'=>r=w/\EP X pins σ Q r s') pl.isList (by omega) (by rw[List.size_toArray] <;> omega) (by omega) (by rw[hj];simpa using ew) ⟨rfl,fin⟩) hs
theorem ix_tup:IxR X (zqb X.K):=by
 intro value slice pins s σ H x y v u Q I rx ry h hs;obtain⟨p,xs,i,z,rfl,rfl,hq,he,q⟩:=h
 cases rx;obtain⟨t,rfl⟩:=ry;obtain⟨its,r,pl,hz⟩:=I.tuple hq;obtain⟨j,h1,h2,h3,h4,h5⟩:=zch he;obtain⟨w,ew,rw'⟩:=r.get h2;have hl:=r.length;have hn:=qo;have fin:EP X pins σ Q w s:=⟨z,H,I,rw',q⟩
 exact subscriptTail_builtinR (x:=w) pl.typeIs slot_tuple_getitem.lookup
  (getItem_tuple (j:=j) (Q:=λr s'=>r=w/\EP X pins σ Q r s') pl (by omega) (by omega) (by rw[List.size_toArray,<-hl];exact h1) (by simpa using ew) ⟨rfl,fin⟩) hs
theorem znf:IxR X zqc:=by
 intro value slice pins s σ H x y v u Q I rx ry h hs;obtain⟨z,i,c,rfl,rfl,hz,he,q⟩:=h;obtain⟨t,rfl⟩:=rx;obtain⟨t',rfl⟩:=ry;obtain⟨j,h1,h2,h3,h4,h5⟩:=zch he;have hl:z.cps.toList.length=z.length:=by simp[Str.length]
 rw[hl]at h1 h4 h5;have hn:=qo;exact tail_any (typeIs_str s z t) slot_str_getitem.lookup (getItem_str (c:=c) (by
  have e1:decide (i < -(2 ^ 63:Int))=false:=decide_eq_false (by omega);have e2:decide (i ≥ 2 ^ 63)=false:=decide_eq_false (by omega);rw[e1,e2,Bool.or_false]) (by rw[h1];simpa using h2) ⟨.str ⟨#[c]⟩,H,I.tok _,⟨_,rfl⟩,q⟩) hs
def rIx(K:PySem.W.Frag):R2:=λx y H Q=>zqa K x y H Q\/zqb K x y H Q\/zqc x y H Q
theorem zng:IxR X (rIx X.K):=ix_list.or (ix_tup.or znf)
theorem zes(its:List Value)(n j:Nat)(u:Value):Obj.mapSeq (·.setIfInBounds j u) { cls:=.type "list",data:=.seq its.toArray n } = { cls:=.type "list",data:=.seq (its.set j u).toArray n }:=by
 simp[Obj.mapSeq]
theorem Inv.lst{pins:List (Addr×Obj)}{σ:St}{H:Hp}{s:Shared}{p:Addr}{xs:List V}(I:Inv X pins σ H s)(h:H p=some (.lst xs)):
  ∃(its:List Value) (n:Nat),Vals xs its/\s.heap.get? p=some { cls:=.type "list",data:=.seq its.toArray n }/\xs.length<=sizeLine:=by
 obtain⟨z,its,n,r,e⟩:=I.hok p _ h;exact⟨its,n,r,e,z⟩
theorem Inv.lstUpd{pins:List (Addr×Obj)}{σ:St}{H:Hp}{s:Shared}{p:Addr}{xs ys:List V}{its its':List Value}{n n':Nat}{f:Obj->Obj}(I:Inv X pins σ H s)(h:H p=some (.lst xs))
  (ho:s.heap.get? p=some { cls:=.type "list",data:=.seq its.toArray n }) (hf:f { cls:=.type "list",data:=.seq its.toArray n } = { cls:=.type "list",data:=.seq its'.toArray n' }) (r:Vals ys its') (hz:ys.length<=sizeLine) (t:Nat) :
  Inv X pins σ (upd H p (.lst ys)) { s with heap:=s.heap.update p f,toks:=t }:=by
 have e:(s.heap.update p f).get? p=some { cls:=.type "list",data:=.seq its'.toArray n' }:=by
  rw[Heap.get?_update_self f ho (by rw[hf] <;> rfl),hf]
 refine I.write (x:=p) (e:=p) (by rw[h];trivial) (.inl rfl) (λb u hb q=>(Heap.get?_update_other _ _ (Ne.symm hb)).trans q) ⟨_,e⟩ ?_;exact⟨hz,its',n',r,e⟩
def zqd:V->V->V->Hp->(Hp->Prop)->Prop:=λo i v H Q=>∃p xs k j,o=.ref p/\i=.int k/\H p=some (.lst xs)/\ixN xs.length k=some j/\Q (upd H p (.lst (xs.set j v)))
theorem zdf:zpy X zqd:=by
 intro pins s σ H o i v ov iv u Q I ro ri rv h;obtain⟨p,xs,k,j,rfl,rfl,hp,hj,q⟩:=h
 cases ro;obtain⟨t,rfl⟩:=ri;obtain⟨its,n,r,ho,hz⟩:=I.lst hp;obtain⟨h1,h2,h3,h4⟩:=zf0 hj;have hl:=r.length;have hn:=qo;have I':Inv X pins σ (upd H p (.lst (xs.set j v))) { s with heap:=s.heap.update p (Obj.mapSeq (·.setIfInBounds j u)) } :=
  I.lstUpd hp ho (zes its n j u) (r.set rv j) (by rw[List.length_set];exact hz) s.toks
 by_cases h0:0<=k
 ·have hk:k.toNat=j:=by
   rw[seqIndex_of h0 h4]at h1;exact Option.some.inj h1
  exact PySem.W.ki_setAt ho h0 (by omega) (by rw[List.size_toArray,<-hl];exact h4) (by rw[hk];exact⟨_,I',q⟩)
 ·have hk:(k+(its.toArray.size:Int)).toNat=j:=by
   rw[seqIndex_neg (by omega) h3]at h1;rw[List.size_toArray,<-hl];exact Option.some.inj h1
  exact PySem.W.ki_setBack ho (by omega) (by rw[List.size_toArray,<-hl];exact h3) (by omega) (by rw[hk];exact⟨_,I',q⟩)
theorem zci(lo hi:Option Int)(n:Nat):(sliceBounds lo hi none n).1=((HT.sIx n 0 lo:Nat):Int)/\(sliceBounds lo hi none n).2.1=((HT.sIx n n hi:Nat):Int)/\(sliceBounds lo hi none n).2.2=1:=by
 refine⟨?_,?_,rfl⟩
 ·cases lo with
  |none=>simp[sliceBounds,HT.sIx]
  |some i=>
   simp only[sliceBounds,HT.sIx,Option.getD_none,show(1:Int) > 0 by decide,if_true]
   by_cases h:i<0
   ·simp only[h,if_true] <;> omega
   ·simp only[h,if_false] <;> omega
 ·cases hi with
  |none=>simp[sliceBounds,HT.sIx]
  |some i=>
   simp only[sliceBounds,HT.sIx,Option.getD_none,show(1:Int) > 0 by decide,if_true]
   by_cases h:i<0
   ·simp only[h,if_true] <;> omega
   ·simp only[h,if_false] <;> omega
theorem zbe(its:List Value)(lo hi:Option Int):slicePick its.toArray lo hi none=((its.drop (HT.sIx its.length 0 lo)).take (HT.sIx its.length its.length hi-HT.sIx its.length 0 lo)).toArray:=by
 obtain⟨h1,h2,h3⟩:=zci lo hi its.toArray.size;unfold slicePick;rw[h1,h2,h3];simp only[sliceRange_one,pick_run,List.size_toArray] <;> rfl
def zrt(K:PySem.W.Frag):V->Option Int->Option Int->Hp->VK->Prop:=λx lo hi H Q=>∃a xs,x=.ref a/\SqL K H a xs/\∀p,H p=none->Q (.ref p) (upd H p (.lst (zg0 xs lo hi)))
theorem zkz:SlR X (zrt X.K):=by
 intro pins s σ H x v vl vu lo hi sl Q I rx hs pl pu h;obtain⟨a,xs,rfl,hx,q⟩:=h
 cases rx;obtain⟨its,r,ht,hz⟩:=I.list hx;have hlen:=r.length;refine⟨"list",_,slot_list_getitem.lookup,ht.isList.typeIs,?_⟩;refine wpAny_getItem_list_slice ht.isList hs pl pu .none (by simp) ?_ (by rw[List.size_toArray] <;> omega);rw[zbe,<-hlen];refine⟨.ref s.heap.objs.size,_,I.laid (t':=s.toks) (o:=.lst (zg0 xs lo hi)) (λb ob q=>Heap.get?_push_of_some _ q) (Nat.le_refl _) ?_,rfl,q _ (I.hok.fresh (Nat.le_refl _))⟩;exact⟨Nat.le_trans (zde xs lo hi) hz,_,0,(r.drop (HT.sIx xs.length 0 lo)).take (HT.sIx xs.length xs.length hi-HT.sIx xs.length 0 lo),Heap.get?_push_size _ rfl⟩
theorem zcj:xm X (.builtin "len") (λxs H Q=>∃p ys,xs = [.ref p]/\(SqL X.K H p ys\/SqT X.K H p ys)/\Q (.int ys.length) H):=by
 intro pins s σ H xs us Q I r h;obtain⟨p,ys,rfl,hq,q⟩:=h;obtain⟨u,rfl,rx⟩:=zfy r
 cases rx;have hn:=qo;rcases hq with hq|hq
 ·obtain⟨its,r',pl,hz⟩:=I.list hq;have hlen:=r'.length;exact Calls.call_len_list pl.isList (by simp only[List.size_toArray] <;> omega) ⟨.int ys.length,H,I.tok _,⟨s.toks+1,by rw[List.size_toArray,hlen]⟩,q⟩
 ·obtain⟨its,r',pl,hz⟩:=I.tuple hq;have hlen:=r'.length;exact len_tuple pl (by simp only[List.size_toArray] <;> omega) ⟨.int ys.length,H,I.tok _,⟨s.toks+1,by rw[List.size_toArray,hlen]⟩,q⟩
def tyV(K:PySem.W.Frag)(T:String)(x:V)(H:Hp):Prop:=match x with
 |.str _=>T = "str"
 |.int _=>T = "int"
 |.ref p=>(T = "list" /\ ∃xs,SqL K H p xs)\/(T = "tuple" /\ ∃xs,SqT K H p xs) \/
   (T = "dict" /\((∃kvs,H p=some (.dK kvs))\/∃kvs,H p=some (.dT kvs)))\/(T = "set" /\ ∃S n,H p=some (.set S n))
 |_=>False
theorem znh{pins:List (Addr×Obj)}{σ:St}{H:Hp}{s:Shared}{T:String}{x:V}{v:Value}(I:Inv X pins σ H s)(r:RelV x v)(ty:tyV X.K T x H):
  s.TypeIs v T/\∀a,v=.ref a->∃ob,s.heap.get? a=some ob/\ob.dict=none:=by
 cases x with
 |str z=>
  obtain⟨t,rfl⟩:=r
  cases (show T = "str" from ty);exact⟨typeIs_str s z t,λ_ e=>nomatch e⟩
 |int i=>
  obtain⟨t,rfl⟩:=r
  cases (show T = "int" from ty);exact⟨typeIs_int s i t,λ_ e=>nomatch e⟩
 |ref p=>
  cases r;rcases ty with⟨rfl,xs,hq⟩ |⟨rfl,xs,hq⟩ |⟨rfl,hk⟩ |⟨rfl,S,n,hk⟩
  ·obtain⟨its,_,pl,_⟩:=I.list hq;refine⟨pl.isList.typeIs,λa e=>?_⟩
   cases e;obtain⟨o,n,e,c,hd,_⟩:=pl;exact⟨o,e,hd⟩
  ·obtain⟨its,_,pl,_⟩:=I.tupleD hq;refine⟨pl.isTup.typeIs,λa e=>?_⟩
   cases e;obtain⟨o,e,_,_,hd⟩:=pl;exact⟨o,e,hd⟩
  ·have z:∃o,s.heap.get? p=some o/\o.ExactDict:=by
    rcases hk with⟨kvs,hk⟩ |⟨kvs,hk⟩
    ·obtain⟨_,_,_,_,o,_,_,e,ex,_⟩:=I.hok p _ hk;exact⟨o,e,ex⟩
    ·obtain⟨_,_,_,_,o,_,_,e,ex,_⟩:=I.hok p _ hk;exact⟨o,e,ex⟩
   obtain⟨o,e,ex⟩:=z;refine⟨⟨o,e,ex.1⟩,λa e2=>?_⟩
   cases e2;exact⟨o,e,ex.2.1⟩
  ·obtain⟨o,_,_,_,e,ex,_⟩:=I.hok p _ hk;refine⟨⟨o,e,ex.1⟩,λa e2=>?_⟩
   cases e2;exact⟨o,e,ex.2.1⟩
 |_=>exact False.elim ty
def tBM(K:PySem.W.Frag)(T:String)(r:V->List V->Hp->VK->Prop)(to:TE)(t:TA):TE:=λσ H Q=>to σ H λx H1=>tyV K T x H1/\t σ H1 λxs H2=>r x xs H2 Q
variable {o e:Expr}{es:List Expr}{to:TE}{t:TA}{name:Str}{apos cpos:Pos}{T id:String}{r:V->List V->Hp->VK->Prop}
theorem zby(pa:PlainAttrs T)(slot:Slot T name id)(hty:typeOf (.builtin id)=pure (.type "method_descriptor"))(hm:MtR X id r)(ho:PE X o to)(ha:PA X (e::es) t)
  (hbase:attributeBase o name X.env (eval o X.env)=eval o X.env:=by rfl)
  (hfew:((backTo cpos (starEach (e::es) X.env)).all (λx=>!x.1) && (backToKw cpos (keywordEach [] X.env)).all (λx=>x.1.isSome)
   && decide ((e::es).length+([]:List Keyword).length+(if ([]:List Keyword).isEmpty then 0 else 1)<30))=true:=by rfl)
  (hline:(apos.endLine == cpos.line)=true:=by rfl) (hs:starEach (e::es) X.env=(false,eval e X.env)::starEach es X.env:=by rfl) (hplain:(backTo cpos (starEach es X.env)).any (·.1)=false:=by rfl) :
  PE X (.Call (.Attribute o name apos) (e::es) [] cpos) (tBM X.K T r to t):=by
 intro pins s σ H Q I h;refine wpAny_Call_method_late hbase hfew hline rfl (thn (ho pins s σ H _ I h) λv s1 ⟨x,H1,I1,r1,ty,q1⟩=>?_);obtain⟨h1,h2⟩:=znh I1 r1 ty;refine⟨T,id,pa,slot,hty,h1,h2,?_⟩;have hA:=ha cpos pins s1 σ H1 _ I1 q1;rw[hs]at hA ⊢;refine Calls.callWith_builtin (by show(false ||(backTo cpos (starEach es X.env)).any (·.1))=false;rw[hplain] <;> rfl) (Calls.evalArgs_plain ?_);exact thn hA λus s2 ⟨vs,H2,I2,r2,q2⟩=>hm pins s2 σ H2 x vs v us Q I2 r1 r2 q2
end
def MtM(X:Cx)(id:String)(r:V->List V->Hp->VK->Prop):Prop :=
 ∀(pins:List (Addr×Obj)) (s:Shared) (σ:St) (H:Hp) (x:V) (xs:List V) (v:Value) (us:List Value) (Q:VK),Inv X pins σ H s->RelV x v->Vals xs us->r x xs H Q ->
  wpAny (model X.prog X.w) X.A (call (.builtin id) (v::us)) (EP X pins σ Q) X.xe s
theorem Vals.one{x:V}{us:List Value}(h:Vals [x] us):∃u,us = [u]/\RelV x u:=by
 cases h with
 |cons r h=>cases h;exact⟨_,rfl,r⟩
theorem Vals.two{x y:V}{us:List Value}(h:Vals [x,y] us):∃u v,us = [u,v]/\RelV x u/\RelV y v:=by
 cases h with
 |cons r h=>obtain⟨v,rfl,q⟩:=Vals.one h;exact⟨_,v,rfl,r,q⟩
theorem Vals.zero:∀{us:List Value},Vals [] us->us = []
 |_,.nil=>rfl
theorem Vals.reverse{xs:List V}{us:List Value}(h:Vals xs us):Vals xs.reverse us.reverse:=by
 induction h with
 |nil=>exact .nil
 |cons r t ih=>rw[List.reverse_cons,List.reverse_cons];exact Vals.append ih (.cons r .nil)
theorem Vals.rep{xs:List V}{us:List Value}(h:Vals xs us):∀k:Nat,Vals (List.replicate k xs).flatten (List.replicate k us).flatten
 |0=>.nil
 |k+1=>by
  rw[List.replicate_succ,List.replicate_succ,List.flatten_cons,List.flatten_cons];exact Vals.append h (Vals.rep h k)
theorem zbz(its:List Value):∀(k:Nat) (acc:List Value),
  List.foldl (λx1 x2=>x1++x2) acc.toArray (List.replicate k its.toArray)=(acc++(List.replicate k its).flatten).toArray
 |0,acc=>by simp
 |k+1,acc=>by
  have e:acc.toArray++its.toArray=(acc++its).toArray:=by simp
  have e2:(acc++its)++(List.replicate k its).flatten=acc++(List.replicate (k+1) its).flatten:=by
   rw[List.replicate_succ,List.flatten_cons,List.append_assoc]
  rw[<-e2,<-zbz its k (acc++its),<-e,List.replicate_succ,List.foldl_cons]
section
variable {X:Cx}{pins:List (Addr×Obj)}{σ:St}{H:Hp}{s:Shared}{l b:Addr}{xs ys zs:List V}
theorem Inv.lset{its its':List Value}{n:Nat}{f:Array Value->Array Value}{t':Nat}(I:Inv X pins σ H s)(hH:H l=some (.lst xs))
  (e:s.heap.get? l=some { cls:=.type "list",data:=.seq its.toArray n }) (hf:f its.toArray=its'.toArray) (hv:Vals ys its') (hz:ys.length<=sizeLine) :
  Inv X pins σ (upd H l (.lst ys)) { s with heap:=s.heap.update l (Obj.mapSeq f),toks:=t' }:=by
 have q:=PySem.IsL.update e f;rw[hf]at q;refine I.write (x:=l) (e:=l) (by rw[hH];exact trivial) (.inl rfl) (λb' u hb hu=>(Heap.get?_update_other s.heap (Obj.mapSeq f) (Ne.symm hb)).trans hu) ⟨_,q⟩ ?_;exact⟨hz,its',_,hv,q⟩
theorem Inv.lnew{its:List Value}{t':Nat}(I:Inv X pins σ H s)(hv:Vals ys its)(hz:ys.length<=sizeLine):
  Inv X pins σ (upd H s.heap.objs.size (.lst ys)) { s with heap:=s.heap.push { cls:=.type "list",data:=.seq its.toArray },toks:=t' } :=
 I.laid (λ_ _ q=>Heap.get?_push_of_some _ q) (Nat.le_refl _) ⟨hz,its,0,hv,Heap.get?_push_size _ rfl⟩
theorem Inv.fresh(I:Inv X pins σ H s):H s.heap.objs.size=none:=I.hok.fresh (Nat.le_refl _)
theorem Inv.lstM(I:Inv X pins σ H s)(hH:H l=some (.lst xs)):xs.length<=sizeLine/\∃(its:List Value) (n:Nat),Vals xs its/\xs.length=its.length/\s.heap.get? l=some { cls:=.type "list",data:=.seq its.toArray n }:=by
 obtain⟨z,its,n,r,e⟩:=I.hok l _ hH;exact⟨z,its,n,r,r.length,e⟩
theorem zh8{n:Nat}(h:n<=sizeLine):Builtin.List.listTooLong n=false:=by
 unfold Builtin.List.listTooLong;exact decide_eq_false (by omega)
end
section
variable {X:Cx}
def zk0:V->List V->Hp->VK->Prop:=λx vs H Q=>∃l xs y,x=.ref l/\vs = [y]/\H l=some (.lst xs)/\xs.length<sizeLine/\Q .non (upd H l (.lst (xs ++ [y])))
theorem jg:MtM X "list.append" zk0:=by
 intro pins s σ H x vs v us Q I rx rv h;obtain⟨l,xs,y,rfl,rfl,hH,hz,q⟩:=h
 cases rx;obtain⟨u,rfl,ru⟩:=rv.one;obtain⟨z,its,n,r,hl,e⟩:=I.lstM hH;refine call_meets F.slot_list_append ⟨_,e,rfl⟩ F.entry_list_append (F.args_list_append_2 _ _) (PySem.list_append l its.toArray n u (by rw[List.size_toArray];omega)) ⟨e,?_⟩;refine⟨.non,_,I.lset (its':=its ++ [u]) hH e (by simp) (r.append (.cons ru .nil)) ?_,rfl,q⟩;rw[List.length_append,List.length_singleton];omega
theorem zk1{α:Type}(xs:List α)(k:Nat):(List.replicate k xs).flatten.length=k * xs.length:=by
 induction k with
 |zero=>simp
 |succ k ih=>rw[List.replicate_succ,List.flatten_cons,List.length_append,ih,Nat.succ_mul,Nat.add_comm]
end
section
variable {prog:Program}{w:World}{A:Around}{E:Value->Shared->Prop}{s:Shared}
end
section
variable {X:Cx}
end
end L2
namespace Att
open PySem PySem.W PySem.Calls PyProof.Rows
theorem j3{P:Params}{h:Heap}:∀(ns:List Int) (vs:List Value),WellAll P h vs (ns.map WData.int)->IntsAre vs ns:=by
 intro ns
 induction ns with
 |nil=>
  intro vs w;rw[List.map_nil]at w
  cases w;exact .nil
 |cons n ns ih=>
  intro vs w;rw[List.map_cons]at w
  cases w with
  |cons a b=>
   cases a;exact .cons _ _ (ih _ b)
theorem zg1{l:OpenLaw}{n:Nat}(hn:l.most=some n){P:Params}{h:Heap}{args:List WData}{vals:List Value}
  (hpre:l.row.toRowW.claim.pre args=true) (hwl:WellAll P h vals args) :
  ∃a vs ns,vals = [Value.ref a]/\args = [WData.list (ns.map WData.int)]/\h.get? a=some { cls:=.type "list",data:=.seq vs.toArray }/\IntsAre vs ns/\ns.length<=n:=by
 have hsh:WShape.hasAll [] args [.list .int]=true:=(pre_splitW hpre).1;have hc:l.pre.holds [] { args:=args }=true:=(pre_splitW hpre).2;obtain⟨d,r,rfl,h1,h2⟩:=hasAllW_cons hsh;obtain rfl:=hasAllW_nil h2;obtain⟨xs,rfl,h3⟩:=hasW_list h1;obtain⟨ns,rfl⟩:=items_int h3;have hlen:ns.length<=n:=by
  unfold OpenLaw.pre at hc;have h4:(WTm.not (.lt (.lit (.int (n:Int))) (.len (.arg 0)))).holds [] { args:=[.list (ns.map .int)] }=true:=by
   have h4:=(holds_andW hc).1;rw[hn]at h4;exact h4
  have h5:=condW_of h4 (w_not (w_lt w_lit (w_len_list (w_arg rfl))));rw[List.length_map]at h5;refine Nat.le_of_not_lt λq=>?_;have q':(n:Int)<((ns.length:Nat):Int):=by omega
  first
   |(rw[decide_eq_true q']at h5;exact absurd h5 (by decide))
   |(simp at h5;omega)
 cases hwl with
 |cons w1 w2=>
  cases w2
  cases w1 with
  |list ho hall=>exact⟨_,_,ns,rfl,rfl,ho,j3 ns _ hall,hlen⟩
theorem zg2(l:OpenLaw)(args:List WData):l.row.toRowW.claim.post args (.bool true) args=true :=
 postW_of (r:=l.row.toRowW) (X:=(true == true))
  (show WShape.has [] (.bool true) .bool=true by first|rfl|decide|simp[WShape.has,WShape.arms,WShape.armsAll])
  (show(WTm.eq .res (.lit (.bool true))).value [] { args:=args,res:=some (.bool true),after:=args }=some (.bool (true == true)) from w_eq_bool (w_res rfl) w_lit) rfl
theorem attach_call{l:OpenLaw}{n:Nat}{q:Program}{loose:List Str}{XP:(Str->Option Value)->Heap->Prop}{YP:World->Heap->Prop}{d:DefRec}
  (hn:l.most=some n) (hdf:d.params.defaults = [])
  (call:∀(w:World) (s₀ s₁:Shared) (mg mb:Str->Option Value) (fa:Addr) (o:Obj) (pm cd doc:Value) (a:Addr) (vs:List Value) (ns:List Int),
   Ground q loose [] XP w s₀ mg mb s₁.heap->YP w s₁.heap ->
   s₁.heap.get? fa=some o->o.data=.func (docDef d.name d.params d.body d.scope pm cd doc)->s₁.heap.CodeRec cd d.name->mg d.name=some (.ref fa) ->
   s₁.heap.get? a=some { cls:=.type "list",data:=.seq vs.toArray }->IntsAre vs ns->ns.length<=n->s₁.gens = #[] ->
   codeAny (model l.prog w) callerA (.call (.ref fa) ⟨[.ref a],[]⟩) (λr s'=>r=.ok (.ret (.bool true))/\OldK s₁.heap s'.heap/\s'.os=s₁.os/\AllBare s'.gens) s₁) :
  WalkO q loose XP YP l.row.toRowW d [] (λf vs=>PySem.call f vs):=by
 intro w s₀ s₁ mg mb G Y fa o pm cd doc dV kV ho hd hcd hD hmg hg args vals as hpre hlay hrd hwl hlo;obtain rfl:dV=.none:=Dflts.none hD hdf;obtain rfl:kV=.none:=Dflts.noKw hD;obtain⟨a,vs,ns,rfl,rfl,hobj,hints,hlen⟩:=zg1 hn hpre hwl;refine enter_call (codeAny_mono (call w s₀ s₁ mg mb fa o pm cd doc a vs ns G Y ho (fd_plain hd) hcd hmg hobj hints hlen hg) λr s' hq=>?_);obtain⟨rfl,h2,h3,h4⟩:=hq;exact⟨.inl ⟨.bool true,.bool true,[],rfl,λ_=>rfl,.bool true,zg2 l _,λ_=>⟨List.Pairwise.nil,λ_ hm=>(nomatch hm)⟩⟩,h2,h3,h4⟩
section
variable {prog:Program}{w:World}{A:Around}{E:Value->Shared->Prop}{s:Shared}{K:Frag}
end
end Att
namespace L2
open PySem PySem.Spec PyProof.Rows
theorem zb0:∀{vs:List Value}{ns:List Int},IntsAre vs ns->Vals (ns.map V.int) vs
 |_,_,.nil=>.nil
 |_,_,.cons n t h=>.cons ⟨t,rfl⟩ (zb0 h)
def zni(H:Hp):Prop:=∀b,H b=none\/∃o xs,H b=some (.frz o (.lst xs))
theorem zh9{P:Program}{w:World}{K:PySem.W.Frag}{mg mb:Str->Option Value}{CX:CXT}{k:Nat}{fa a:Addr}{fd:FuncData}{x:Str}{sp:Sp}{s₁:Shared}{vs:List Value}{ns:List Int}
  (KX:K.In s₁.heap) (hns:s₁.heap.Ns mainGlobals mg) (hb:s₁.heap.Ns builtinsNs mb) (hbb:∀x:Str,x ≠ "__name__" -> mb x=bootBuiltins x) (hlim:s₁.heap.NoLimit) (hg:s₁.gens = #[])
  (ha:s₁.heap.get? a=some { cls:=.type "list",data:=.seq vs.toArray }) (hi:IntsAre vs ns) (hl:ns.length<=sizeLine) (hr:Room k callerA)
  (F:∀base:Heap,K.In base->base.Ns mainGlobals mg->FnOk P w K mg base CX k fa fd [x] sp) (hbind:∀(s:Shared) (u:Value),BindsTo s fd ⟨[u],[]⟩ [(x,u)])
  (hsp:∀H:Hp,zni H->SqL K H a (ns.map V.int)->sp [.ref a] H (λv _=>v=.bl true) λ_ _ _=>False)
  (hCX:∀H e s',CX [] H s₁ (λ_ _ _=>False) e s'->False) :
  codeAny (model P w) callerA (.call (.ref fa) ⟨[.ref a],[]⟩) (λr s'=>r=.ok (.ret (.bool true))/\OldK s₁.heap s'.heap/\s'.os=s₁.os/\AllBare s'.gens) s₁:=by
 have rv:=zb0 hi;have lenV:=hi.length
 -- from an abstract heap in which nothing but the script may be tracked
 have core:∀H:Hp,zni H->SqL K H a (ns.map V.int)->HOk P w H s₁.heap->(∀b,H b≠none->b=a)->(H a≠none->K.lookup a=none) ->
   codeAny (model P w) callerA (.call (.ref fa) ⟨[.ref a],[]⟩) (λr s'=>r=.ok (.ret (.bool true))/\OldK s₁.heap s'.heap/\s'.os=s₁.os/\AllBare s'.gens) s₁:=by
  intro H hO hS hok hA hK;have base_of:∀{b:Addr}{o:Obj},s₁.heap.get? b=some o->H b=none->(zcd s₁.heap H).get? b=some o:=λe n=>zhr e n;have noA:∀{b:Addr}{o:Obj}{es:Array DictEntry}{ep:Nat},s₁.heap.get? b=some o->o.data=.dict es ep->H b=none:=λ{b o es ep} e d=>by
   cases q:H b with
   |none=>rfl
   |some u=>
    have e':b=a:=hA b (by rw[q];simp);subst e';rw[ha]at e;cases e;have d':Data.seq vs.toArray _=Data.dict es ep:=d
    cases d'
  have nsK:∀{b:Addr}{m:Str->Option Value},s₁.heap.Ns b m->(zcd s₁.heap H).Ns b m:=λ{b m} ⟨o,es,ep,e,d,r⟩=>⟨o,es,ep,base_of e (noA e d),d,r⟩
  have hKb:K.In (zcd s₁.heap H):=λb o e=>base_of (KX b o e) (by
   cases q:H b with
   |none=>rfl
   |some u=>
    have e':b=a:=hA b (by rw[q];simp);subst e';rw[hK (by rw[q];simp)]at e;cases e)
  have hM:Mod K mg (zcd s₁.heap H):=⟨hKb,nsK hns,⟨mb,nsK hb,hbb⟩,let ⟨mc,h1,h2⟩:=hlim;⟨mc,nsK h1,h2⟩⟩
  have e0:Env0 P w K mg (zcd s₁.heap H) callerA [] s₁ H:=⟨rfl,hM,λb o e=>zkn e,Nat.le_of_eq (zgr _ _),trivial,λb hb=>absurd (show b∈([]:List Addr) from hb) (by simp),hok,.of_eq hg⟩
  refine codeAny_mono ((F _ hKb (nsK hns)).run callerA [] s₁ H ⟨[.ref a],[]⟩ [.ref a] [.ref a] _ _ hr e0 (hbind s₁ (.ref a)) (.cons rfl .nil) (hsp H hO hS)) λr s' h=>?_
  cases r with
  |error e=>exact(hCX H e s' h).elim
  |ok fl=>
   cases fl with
   |next=>exact False.elim h
   |brk=>exact False.elim h
   |cont=>exact False.elim h
   |ret u=>
    obtain⟨v,H',os,bare,un,hok',r',q⟩:=h;have q':v=.bl true:=q;subst q';obtain rfl:u=Value.bool true:=r';refine⟨rfl,OldK.of_keep λb o e=>?_,os,bare⟩
    cases q:H b with
    |none=>exact un.keep b o e q (by intro z;exact absurd (show b∈([]:List Addr) from z) (by simp)) (by simp)
    |some u=>
     rcases hO b with z |⟨ob,xs,z⟩
     ·rw[q]at z;cases z
     ·have z2:=un.frzs b ob _ z;obtain⟨e1,_⟩:=hok b _ z;obtain⟨e2,_⟩:=hok' b _ z2;rw[e]at e1;cases e1;exact e2
 cases hk:K.lookup a with
 |some o=>
  -- the script is one of the module's own objects
  have e:=KX a o hk;rw[ha]at e
  cases e;refine core (λ_=>none) (λ_=>.inl rfl) (.inr ⟨_,vs.toArray,_,hk,rfl,rfl,rfl,by rw[List.size_toArray,lenV];exact hl,by simpa using rv⟩) (λb u z=>by have z':(none:Option HO)=some u:=z;cases z') (λb z=>absurd rfl z) λz=>absurd rfl z
 |none=>
  refine core (λb=>if b=a then some (.frz { cls:=.type "list",data:=.seq vs.toArray } (.lst (ns.map V.int))) else none) (λb=>?_) (.inl (.inr ⟨{ cls:=.type "list",data:=.seq vs.toArray },if_pos rfl⟩)) (λb u z=>?_) (λb z=>?_) λ_=>hk
  ·by_cases hb:b=a
   ·exact .inr ⟨_,_,if_pos hb⟩
   ·exact .inl (if_neg hb)
  ·by_cases hb:b=a
   ·have z':=(if_pos hb).symm.trans z
    cases z';subst hb;exact⟨ha,by rw[List.length_map];exact hl,vs,_,rv,ha⟩
   ·have z':=(if_neg hb).symm.trans z
    cases z'
  ·by_cases hb:b=a
   ·exact hb
   ·exact absurd (if_neg hb) z
theorem walk_of{l:PySem.W.OpenLaw}{n k:Nat}{q:Program}{loose:List Str}{XP:(Str->Option Value)->Heap->Prop}{YP:World->Heap->Prop}{d:DefRec}{K:Params->PySem.W.Frag}{CX:World->CXT}{sp:World->Sp}{x:Str}
  (hn:l.most=some n) (hn2:n<=sizeLine) (hdf:d.params.defaults = []) (hr:Room k callerA)
  (hY:∀(w:World) (h:Heap),YP w h->(K w.params).In h)
  (F:∀(w:World) (mg:Str->Option Value) (fa:Addr) (h:Heap),(K w.params).In h->h.Ns mainGlobals mg->mg d.name=some (.ref fa) ->
   ∃fd:FuncData,(∀(s:Shared) (u:Value),BindsTo s fd ⟨[u],[]⟩ [(x,u)]) /\
    ∀base:Heap,(K w.params).In base->base.Ns mainGlobals mg->FnOk l.prog w (K w.params) mg base (CX w) k fa fd [x] (sp w))
  (hsp:∀(w:World) (H:Hp) (a:Addr) (ns:List Int),ns.length<=n->zni H->SqL (K w.params) H a (ns.map V.int)->sp w [.ref a] H (λv _=>v=.bl true) λ_ _ _=>False)
  (hCX:∀(w:World) (H:Hp) (s:Shared) (e:Value) (s':Shared),CX w [] H s (λ_ _ _=>False) e s'->False) :
  PySem.W.WalkO q loose XP YP l.row.toRowW d [] (λf vs=>PySem.call f vs):=by
 refine Att.attach_call hn hdf λw s₀ s₁ mg mb fa o pm cd doc a vs ns G Y ho hd hcd hmg hobj hints hlen hg=>?_;have KX:=hY w _ Y;obtain⟨fd,hb,hF⟩:=F w mg fa _ KX G.T.g hmg;exact zh9 KX G.T.g G.T.b G.T.builtins G.T.nolimit hg hobj hints (Nat.le_trans hlen hn2) hr hF hb (λH hO hS=>hsp w H a ns hlen hO hS) λH e s'=>hCX w H s₁ e s'
def h9(s:Stmt)(j:Nat):Stmt:=match s with
 |.ClassDef _ _ _ body _ _ _ _ _ _ _=>body.getD j (.Pass ⟨0,0,0,0⟩)
 |_=>.Pass ⟨0,0,0,0⟩
def yu(s:Stmt):Arguments:=match s with
 |.FunctionDef _ a _ _ _ _ _ _ _ _=>a
 |_=>{ posonlyargs:=[],args:=[],vararg:=none,kwonlyargs:=[],kw_defaults:=[],kwarg:=none,defaults:=[] }
def zy(s:Stmt):List Stmt:=match s with
 |.FunctionDef _ _ b _ _ _ _ _ _ _=>b
 |_=>[]
def zb(s:Stmt):Scope:=match s with
 |.FunctionDef _ _ _ _ _ _ sc _ _ _=>sc
 |_=>{ kind:=.function,names:=[],isGenerator:=false,isCoroutine:=false }
abbrev CX0:CXT:=λ_ _ _ _ _ _=>False
abbrev E0:XK:=λ_ _ _=>False
theorem zf2{X:Cx}:qp CX0 X E0:=λ_ _ _ _ _ _ _ h=>h.elim
structure Fun(K:PySem.W.Frag)(x qual:Str)(st:Stmt)(f:Addr)(fd:FuncData):Prop where
 ex:∃(oc:Value) (od:Option Addr) (kV doc pm:Value) (an:Option Addr) (cdv ct:Value) (osl:Array (Option Value)),
  fd=PySem.W.fnOf x qual (yu st) (zy st) (zb st) .none kV doc pm an cdv ct/\K.lookup f=some ⟨oc,od,.func fd,osl⟩/\PySem.W.codeIn K cdv qual=true
 kp:PySem.W.keepIn K (.ref f)=true
section
variable {P:Program}{w:World}{K:PySem.W.Frag}{mg:Str->Option Value}{base:Heap}
theorem Fun.ok{x qual:Str}{st:Stmt}{f:Addr}{fd:FuncData}{N ps:List Str}{k:Nat}{sp:Sp}(F:Fun K x qual st f fd)(S:zm N ps (zb st))(len:∀vs H Q E,sp vs H Q E->vs.length=ps.length)
  (hbody:∀(cdv:Value) (A:Around) (outer:List Env) (s:Shared) (H:Hp) (vs:List V) (Q:VK) (E:XK),Room k (A.deeper (envOfC qual (zb st) s.heap.objs.size f cdv))->sp vs H Q E ->
   ∃t,PSs (y6 CX0 P w K mg base N qual (zb st) f cdv A outer s H E).nox (zy st) t/\t { nx:=λ_ H'=>Q .non H',rt:=Q } (xo N vs) H):FnOk P w K mg base CX0 (k+1) f fd ps sp:=by
 obtain⟨oc,od,kV,doc,pm,an,cdv,ct,osl,rfl,lk,hcd⟩:=F.ex;refine zh7 lk hcd S len λA outer s H vs Q E hr hsp=>?_;obtain⟨t,h,q⟩:=hbody cdv A outer s H vs Q E hr hsp;exact⟨t,h.nox,q⟩
theorem Fun.binds{x qual:Str}{st:Stmt}{f:Addr}{fd:FuncData}{ps:List Str}(F:Fun K x qual st f fd)
  (h:∀(kV doc pm:Value) (an:Option Addr) (cdv ct:Value) (us:List Value),us.length=ps.length->bindArgs (PySem.W.fnOf x qual (yu st) (zy st) (zb st) .none kV doc pm an cdv ct) ⟨us,[]⟩=pure (ps.zip us)):Binds K fd ps []:=by
 obtain⟨oc,od,kV,doc,pm,an,cdv,ct,osl,rfl,lk,hcd⟩:=F.ex;exact .all (h kV doc pm an cdv ct)
theorem zak{x qual:Str}{st:Stmt}{f:Addr}{oc:Value}{od an:Option Addr}{osl:Array (Option Value)}{kV doc pm cdv ct:Value}(l:K.lookup f=some ⟨oc,od,.func (PySem.W.fnOf x qual (yu st) (zy st) (zb st) .none kV doc pm an cdv ct),osl⟩)
  (c:PySem.W.codeIn K cdv qual=true) (k:PySem.W.keepIn K (.ref f)=true):Fun K x qual st f (PySem.W.fnOf x qual (yu st) (zy st) (zb st) .none kV doc pm an cdv ct):=⟨⟨oc,od,kV,doc,pm,an,cdv,ct,osl,rfl,l,c⟩,k⟩
end
section
variable {X:Cx}
theorem pv(i:Nat){x:Str}{pos:Pos}(hN:X.N[i]?=some x:=by rfl)(hv:Vis X.env.scope x:=by first|exact Or.inl rfl|exact Or.inr (Or.inl rfl)|exact Or.inr (Or.inr rfl))(hd:(x ==("__debug__" : Str))=false:=by decide)
  (hcd:(x ==("__classdict__" : Str))=false:=by decide):PE X (.Name x pos) (zpt i):=yg hN hv hd hcd
end
theorem zk2{A B:Prop}(h:B):if false=true then A else B:=by
 rw[if_neg Bool.false_ne_true];exact h
theorem zqe{c A B:Prop}[Decidable c](h1:c->A)(h2:¬ c->B):if c then A else B:=by
 by_cases h:c
 ·rw[if_pos h];exact h1 h
 ·rw[if_neg h];exact h2 h
def Same(H H':Hp):Prop:=∀b o,H b=some o->H' b=some o
theorem Same.refl(H:Hp):Same H H:=λ_ _ h=>h
theorem Same.trans{H H1 H2:Hp}(a:Same H H1)(b:Same H1 H2):Same H H2:=λc o h=>b c o (a c o h)
theorem Same.free{H H':Hp}(e:Same H H'){l:Addr}(h:H' l=Option.none):H l=Option.none:=by
 cases q:H l with
 |none=>rfl
 |some o=>
  rw[e l o q]at h
  cases h
theorem Same.seq{K:PySem.W.Frag}{H H':Hp}{a:Addr}{xs:List V}(e:Same H H')(h:SqL K H a xs):SqL K H' a xs:=by
 rcases h with(h |⟨o,h⟩)|h
 ·exact .inl (.inl (e _ _ h))
 ·exact .inl (.inr ⟨o,e _ _ h⟩)
 ·exact .inr h
theorem gg{P:Prop}(h:∀G:Prop,(P->G)->G):P:=h P id
theorem zck{prog:Program}{w:World}{A:Around}{R:Result->Shared->Prop}{s:Shared}{elt target iter:Expr}{ifs:List Expr}{scope:Scope}{pos:Pos}{it acc:Value}{env:Env}(I:Nat->Shared->Prop)
  (turn:∀n s,I n s->wpAny (model prog w) A (pyNext it) (λr s1=>match r with
   |none=>R (.ok .next) s1
   |some v=>wpAny (model prog w) A (letOwnedTupleGo target it v) (λ_ s1'=>wpAny (model prog w) A (assign target env v) (λ_ s2=>
     wpAny (model prog w) A (forIn ifs true λc r=>if r=true then do let ok <-isTrue c env (eval c env);pure (ForInStep.yield ok) else pure (ForInStep.yield r)) (λok s3=>
      if ok=true then wpAny (model prog w) A (eval elt env) (λx s4=>
       wpAny (model prog w) A (call (.builtin "list.append") [acc,x]) (λ_ s5=>∃m,m<n/\I m s5) (λ_ _=>False) s4) (λ_ _=>False) s3
      else ∃m,m<n/\I m s3) (λ_ _=>False) s2) (λ_ _=>False) s1') (λ_ _=>False) s1) (λ_ _=>False) s)
  (n:Nat) (h:I n s) :
  codeAny (model prog w) A (.compLoop (.ListComp elt [⟨target,iter,ifs,0⟩] scope pos) 0 it acc env) R s:=by
 refine codeAny_loop rfl I (λn s hI=>?_) n h;show wpAny _ A ((compTurn (.ListComp elt [⟨target,iter,ifs,0⟩] scope pos) 0 it acc env).onRaise (λx=>do noteFrame x env;theTreesLotGoes x)) _ _ s;refine wpAny_noted ?_;rw[compTurn_list];refine wpAny_bind (wpAny_standAt (wpAny_bind (wpAny_mono (turn n s hI) (λr s₁ h₁=>?_) λ_ _ h'=>h'.elim)))
 cases r with
 |none=>exact wpAny_pure h₁
 |some v=>
  refine wpAny_bind (wpAny_mono h₁ (λ_ s₁' h₁'=>?_) λ_ _ h'=>h'.elim);refine wpAny_bind (wpAny_mono h₁' (λ_ s₂ h₂=>wpAny_bind (wpAny_mono h₂ (λok s₃ h₃=>?_) λ_ _ h'=>h'.elim)) λ_ _ h'=>h'.elim)
  cases ok with
  |false=>exact wpAny_pure ⟨rfl,h₃⟩
  |true=>
   exact wpAny_bind (wpAny_bind (wpAny_mono h₃ (λx s₄ h₄=>wpAny_bind (wpAny_mono h₄ (λ_ s₅ h₅=>wpAny_pure (wpAny_pure ⟨rfl,h₅⟩)) λ_ _ h'=>h'.elim)) λ_ _ h'=>h'.elim))
inductive Capt(X:Cx)(scope:Scope)(cl:List (Str×Addr)):List Str->List Nat->Prop
 |nil:Capt X scope cl [] []
 |cons {x:Str}{j:Nat}{xs:List Str}{js:List Nat} (h1:X.N[j]?=some x) (h2:X.env.kindOf x=some .cell\/X.env.kindOf x=some .free) (h3:cl.lookup x=X.env.cells.lookup x)
  (h4:(relabel scope X.env).names.lookup x=some .cell\/(relabel scope X.env).names.lookup x=some .free) (t:Capt X scope cl xs js):Capt X scope cl (x::xs) (j::js)
theorem Capt.get{X:Cx}{scope:Scope}{cl:List (Str×Addr)}:∀{xs:List Str}{js:List Nat},Capt X scope cl xs js->xs.length=js.length/\∀(i:Nat) (x:Str) (j:Nat),xs[i]?=some x->js[i]?=some j->X.N[j]?=some x/\(X.env.kindOf x=some .cell\/X.env.kindOf x=some .free)/\cl.lookup x=X.env.cells.lookup x /\
  ((relabel scope X.env).names.lookup x=some .cell\/(relabel scope X.env).names.lookup x=some .free)
 |_,_,.nil=>⟨rfl,λi x j h=>by simp at h⟩
 |_,_,.cons h1 h2 h3 h4 t=>⟨by simp[t.get.1],λi x j hx hj=>by
  cases i with
  |zero=>simp at hx hj;subst hx hj;exact⟨h1,h2,h3,h4⟩
  |succ i=>exact t.get.2 i x j (by simpa using hx) (by simpa using hj)⟩
inductive SubC(X:Cx):List (Str×Addr)->Prop
 |nil:SubC X []
 |cons {x:Str}{c:Addr}{cl:List (Str×Addr)} (h:X.env.cells.lookup x=some c) (t:SubC X cl):SubC X ((x,c)::cl)
theorem SubC.of{X:Cx}:∀{cl:List (Str×Addr)},SubC X cl->∀x c,cl.lookup x=some c->X.env.cells.lookup x=some c
 |_,.nil,x,c,h=>by simp at h
 |_,.cons (x:=y) (c:=d) h0 t,x,c,h=>by
  rw[List.lookup_cons]at h
  cases e:x == y with
  |true=>
   rw[e]at h;have:x=y:=by simpa using e
   subst this;rw[h0];simpa using h
  |false=>rw[e]at h;exact t.of x c (by simpa using h)
def yy(X:Cx)(N':List Str)(scope:Scope)(cl:List (Str×Addr))(C:Addr)(fp:List Addr)(s2:Shared)(H2:Hp):Cx where
 prog:=X.prog
 w:=X.w
 K:=X.K
 mg:=X.mg
 base:=X.base
 A:=X.A
 N:=N'
 s₀:=s2
 H₀:=H2
 env:=compEnvC scope cl C X.env
 outer:=X.stack
 stack:=X.stack
 ex:=fp
 fn:=λ_=>false
 calm:=true
 pn:=[]
 xe:=λ_ _=>False
def yc(k:Nat)(js:List Nat)(σ:St):St:=List.replicate k none++js.map λj=>(σ[j]?).join
def PTs(X:Cx)(ifs:List Expr)(t:TT):Prop :=
 ∀(pins:List (Addr×Obj)) (s:Shared) (σ:St) (H:Hp) (Q:Bool->Hp->Prop),Inv X pins σ H s->t σ H Q ->
  wpAny (model X.prog X.w) X.A (forIn ifs true λc r=>if r=true then do let ok <-isTrue c X.env (eval c X.env);pure (ForInStep.yield ok) else pure (ForInStep.yield r)) (TP X pins σ Q) X.xe s
def zia:TT:=λ_ H Q=>Q true H
theorem zf3{X:Cx}:PTs X [] zia:=λ_ _ _ H _ I h=>wpAny_tests_nil ⟨H,I,h⟩
theorem zk3{X:Cx}{c:Expr}{t:TT}(hc:PT X c t):PTs X [c] t:=λpins s σ H Q I h=>wpAny_tests_one (hc pins s σ H Q I h)
def zaa(J:It)(D:Addr)(g:TG)(tt:TT)(te:TE)(σ0:St)(H1:Hp)(Q:VK):Prop :=
 ∃W:Nat->Nat->St->Hp->Prop,(∃m,W 0 m σ0 (upd H1 D (.lst [])))/\∀i m σ H,W i m σ H ->
  (J.stop i H/\Q (.ref D) H)\/(J.go i H/\∀x H',J.yld i H x H'->g x σ H' λσ2 H2=>tt σ2 H2 λb H3=>
   if b=true then te σ2 H3 λy H4=>∃ys,H4 D=some (.lst ys)/\ys.length<sizeLine/\∃m',m' < m/\W (i+1) m' σ2 (upd H4 D (.lst (ys ++ [y])))
   else ∃m',m' < m/\W (i+1) m' σ2 H3)
def tLC(k:Nat)(js:List Nat)(wi:TI)(g:TG)(tt:TT)(te:TE):TE:=λσ H Q=>wi σ H λJ H1=>∀D,H1 D=none->zaa J D g tt te (yc k js σ) H1 Q
section
variable {X:Cx}
theorem zqf{N':List Str}{scope:Scope}{cl:List (Str×Addr)}{fp:List Addr}{pins:List (Addr×Obj)}{σ:St}{H2:Hp}{s2:Shared}{C:Addr}(I:Inv X pins σ H2 s2)(hc:X.calm=true)(hkind:scope.kind=.function)(hC:s2.heap.objs.size<=C)
  (hsub:SubC X cl) (hhas:(relabel scope X.env).names.all (λp=>(p.2 != .cell && p.2 != .free) ||(cl.lookup p.1).isSome)=true)
  (hf:∀b∈fp,FpOk X pins H2 b) (ho:∀b∈fp,∃o,s2.heap.get? b=some o/\∀v,o.data ≠ .cell v):(yy X N' scope cl C fp s2 H2).Ok where
 mod:=I.ok.mod
 kind:=hkind
 glob:=I.ok.glob
 blt:=I.ok.blt
 above:=hC
 inj:=λx y c h1 h2=>I.ok.inj x y c (hsub.of x c h1) (hsub.of y c h2)
 has:=λx hx=>by
  have hx:(relabel scope X.env).names.lookup x=some .cell\/(relabel scope X.env).names.lookup x=some .free:=hx;have key:∀k,(relabel scope X.env).names.lookup x=some k->(k=.cell\/k=.free)->∃c,cl.lookup x=some c:=λk hk hkk=>by
   have hm:=PySem.mem_of_lookup hk;have:=List.all_eq_true.mp hhas _ hm;rcases hkk with rfl|rfl <;> exact Option.isSome_iff_exists.mp (by simpa using this)
  rcases hx with hx|hx
  ·exact key _ hx (.inl rfl)
  ·exact key _ hx (.inr rfl)
 cab:=λx c h=>by cases h
 hd:=λ_=>I.ok.hd hc
 frames:=I.ok.frames
 stk:=.inl rfl
 exf:=λb hb=>by
  obtain⟨o,e,_⟩:=ho b hb;obtain⟨f0,f1,f2,f3,f4,f5⟩:=hf b hb;exact⟨Nat.ne_of_lt (Nat.lt_of_lt_of_le (Heap.lt_size e) hC),λx c h=>f4 x c (hsub.of x c h)⟩
 bs:=I.bs
 bsz:=Nat.le_trans I.ok.bsz I.sz
 noex:=λb o e hb=>by
  obtain⟨f0,f1,f2,f3,f4,f5⟩:=hf b hb;rcases f3 with z|z
  ·exact I.ok.noex b o e z
  ·exact absurd (Nat.lt_of_lt_of_le (Heap.lt_size e) (Nat.le_trans I.ok.bsz z)) (Nat.lt_irrefl _)
 exfs:=λb hb z=>by
  obtain⟨f0,f1,f2,f3,f4,f5⟩:=hf b hb;exact(List.mem_cons.mp (I.stkSub b z)).elim f1 f2
 funs:=I.stack
 frf:=I.stkFree
theorem zib{N' capt:List Str}{k:Nat}{js:List Nat}{scope:Scope}{cl:List (Str×Addr)}{fp:List Addr}{pins:List (Addr×Obj)}{σ:St}{H2:Hp}{s2:Shared}{D C:Addr}{h4:Heap}{t4:Nat}{m:Str->Option Value}(I:Inv X pins σ H2 s2)(ok:(yy X N' scope cl C fp s2 H2).Ok)
  (hD:s2.heap.objs.size<=D) (hC:s2.heap.objs.size<=C) (hDC:D≠C) (keep:∀b o,s2.heap.get? b=some o->h4.get? b=some o) (hns:h4.Ns C m)
  (hl:h4.get? D=some { cls:=.type "list",data:=.seq #[] 0 })
  (hsub:SubC X cl) (hcap:Capt X scope cl capt js) (hN:N'=N'.take k++capt) (hk:k<=N'.length) :
  Inv (yy X N' scope cl C fp s2 H2) [] (yc k js σ) (upd H2 D (.lst [])) { s2 with heap:=h4,toks:=t4 }:=by
 have below:∀b o,s2.heap.get? b=some o->b≠D/\b≠C:=λb o e=>⟨Nat.ne_of_lt (Nat.lt_of_lt_of_le (Heap.lt_size e) hD),Nat.ne_of_lt (Nat.lt_of_lt_of_le (Heap.lt_size e) hC)⟩
 have hlen:N'.length=k+capt.length:=by
  have:=congrArg List.length hN;rw[List.length_append,List.length_take]at this;omega
 refine⟨ok,rfl,I.bare,Un.laid keep hD (I.hok.fresh hD),⟨m,hns,λi x v h1 h2 h3=>?_⟩,λx c h=>?_,?_,λx c h=>?_,λp hp=>absurd (show p∈([]:List (Addr×Obj)) from hp) (by simp),?_,?_⟩
 ·have h1:N'[i]?=some x:=h1;unfold yc at h2
  by_cases hi:i<k
  ·rw[List.getElem?_append_left (by simpa using hi),List.getElem?_replicate]at h2;rw[if_pos hi]at h2
   cases h2
  ·rw[List.getElem?_append_right (by simpa using hi),List.length_replicate,List.getElem?_map]at h2
   have hx:capt[i-k]?=some x:=by
    rw[hN,List.getElem?_append_right (by rw[List.length_take];omega),List.length_take]at h1;rw[show min k N'.length=k by omega]at h1;exact h1
   cases ej:js[i-k]? with
   |none=>rw[ej]at h2;cases h2
   |some j=>
    rw[ej]at h2;have h2':(σ[j]?).join=some v:=Option.some.inj h2;obtain⟨q1,q2,q3,q4⟩:=hcap.get.2 _ _ _ hx ej;have hv:σ[j]?=some (some v):=by
     cases e:σ[j]? with
     |none=>rw[e]at h2';cases h2'
     |some o=>rw[e]at h2';cases o with
      |none=>cases h2'
      |some v'=>simpa using h2'
    obtain⟨m0,hn0,hl0⟩:=I.loc;obtain⟨u,r,l⟩:=hl0 j x v q1 hv (by rcases q2 with z|z;exact .inr (.inl z);exact .inr (.inr z));refine⟨u,r,?_⟩;rcases l with⟨z,_⟩ |⟨_,c,e,o,z1,z2⟩
    ·rcases q2 with q|q <;> · rw[q]at z;cases z
    ·exact .inr ⟨q4,c,q3.trans e,o,keep c o z1,z2⟩
 ·obtain⟨v,o,z1,z2⟩:=I.cell x c (hsub.of x c h);exact⟨v,o,keep c o z1,z2⟩
 ·show upd H2 D (.lst []) C=none;rw[zd (Ne.symm hDC)];exact I.hok.fresh hC
 ·obtain⟨v,o,z1,z2⟩:=I.cell x c (hsub.of x c h);show upd H2 D (.lst []) c=none;rw[zd (below c o z1).1];exact I.freeC x c (hsub.of x c h)
 ·exact I.hok.laid keep hD ⟨Nat.zero_le _,[],0,.nil,hl⟩
 ·show(yc k js σ).length=N'.length;unfold yc;rw[List.length_append,List.length_replicate,List.length_map,hlen,hcap.get.1]
structure zic(X:Cx)(scope:Scope)(cl:List (Str×Addr))(N' capt:List Str)(k:Nat)(js:List Nat):Prop where
 clos:closureFor scope X.env=pure cl
 cell:∀y∈scope.names,y.2 ≠ .cell
 kind:scope.kind=.function
 names:∀y∈scope.names,y.2=.local->scope.names.lookup y.1=some .local
 sub:SubC X cl
 has:(relabel scope X.env).names.all (λp=>(p.2 != .cell && p.2 != .free) ||(cl.lookup p.1).isSome)=true
 cap:Capt X scope cl capt js
 hN:N'=N'.take k++capt
 hk:k<=N'.length
def LcEnd(X:Cx)(pins:List (Addr×Obj))(σ:St)(Q:VK)(acc:Value)(C:Addr)(r:Result)(s':Shared):Prop :=
 ∃(f:Flow) (D:Addr) (H':Hp) (m:Str->Option Value),r=.ok f/\acc=.ref D/\Inv X pins σ H' s'/\Q (.ref D) H'/\s'.heap.Ns C m/\H' C=none/\C≠X.env.locals/\X.s₀.heap.objs.size<=C/\(∀x c,X.env.cells.lookup x=some c->c≠C)/\∀p∈X.pn++pins,p.1≠C
theorem LcEnd.let_go{pins:List (Addr×Obj)}{σ':St}{H':Hp}{C:Addr}{s'':Shared}{h':Heap}(I:Inv X pins σ' H' s'')(hn:H' C=none)(h1:C≠X.env.locals)(h2:X.s₀.heap.objs.size<=C)(h3:∀x c,X.env.cells.lookup x=some c->c≠C)(h4:∀p∈X.pn++pins,p.1≠C)
  (hs:Heap.SameBut C s''.heap h'):Inv X pins σ' H' { s'' with heap:=h' } :=
 I.turned (t':=s''.toks) (λb o hb e=>(hs.2 b hb).trans e) hn h1 (.inr h2) h3 h4
theorem zdg{elt tg iter:Expr}{ifs:List Expr}{scope:Scope}{pos:Pos}{cl:List (Str×Addr)}{N' capt:List Str}{k:Nat}{js:List Nat}{g:TG}{tt:TT}{te:TE}{J:It}{fp:List Addr}{tn:Nat->Heap->Prop}{it:Addr}
  {pins:List (Addr×Obj)}{σ:St}{H2:Hp}{s2:Shared}{Q:VK}{E:Value->Shared->Prop} (hc:X.calm=true) (L:zic X scope cl N' capt k js)
  (hg:∀C fp s2 H2,PG (yy X N' scope cl C fp s2 H2) tg g) (ht:∀C fp s2 H2,PTs (yy X N' scope cl C fp s2 H2) ifs tt) (he:∀C fp s2 H2,PE (yy X N' scope cl C fp s2 H2) elt te)
  (I2:Inv X pins σ H2 s2) (T:zef X.prog X.w X.K tg J fp it tn) (st2:tn 0 s2.heap) (f2:∀b∈fp,FpOk X pins H2 b) (q:∀D,H2 D=none->zaa J D g tt te (yc k js σ) H2 Q) :
  wpAny (model X.prog X.w) X.A (newList []) (λacc s3=>wpAny (model X.prog X.w) X.A (newFunctionEnv scope X.env.globals cl [] X.env.qual none .none (some X.env)) (λcenv s4=>
   codeAny (model X.prog X.w) X.A (.compStart (.ListComp elt [⟨tg,iter,ifs,0⟩] scope pos) 0 (.ref it) acc { cenv with scope:=relabel scope X.env }) (LcEnd X pins σ Q acc cenv.locals) s4) E s3) E s2:=by
 refine wpAny_newObj_type (wpAny_newFunctionEnv L.cell (by intro y hy;simp at hy) (λh₁ hns₁ hsb₁=>?_) L.kind);dsimp only at hns₁ hsb₁ ⊢;generalize hH2:s2.heap.push { cls:=.type "list",dict:=none,data:=.seq ([]:List Value).toArray }=G at hns₁ hsb₁ ⊢;have hC:G.objs.size=s2.heap.objs.size+1:=by rw[<-hH2,Heap.size_push]
 have hDC:s2.heap.objs.size≠G.objs.size:=by rw[hC];exact Nat.ne_of_lt (Nat.lt_succ_self _)
 have hCle:s2.heap.objs.size<=G.objs.size:=by rw[hC];exact Nat.le_succ _
 have below:∀b,b<s2.heap.objs.size->b≠G.objs.size:=λb hb=>by rw[hC];exact Nat.ne_of_lt (Nat.lt_succ_of_lt hb)
 have keep:∀b o,s2.heap.get? b=some o->h₁.get? b=some o:=λb o e=>hsb₁.extBut b o (below b (Heap.lt_size e)) (Heap.get?_push_of_some _ (hH2 ▸ Heap.get?_push_of_some _ e));have hl:h₁.get? s2.heap.objs.size=some { cls:=.type "list",data:=.seq #[] 0 }:=hsb₁.extBut _ _ hDC (Heap.get?_push_of_some _ (hH2 ▸ Heap.get?_push_size _ rfl));have ho2:=T.obj _ _ st2;have ok:(yy X N' scope cl G.objs.size fp s2 H2).Ok:=zqf I2 hc L.kind hCle L.sub L.has f2 ho2;generalize hD:s2.heap.objs.size=D at hl hDC ⊢;generalize hCC:G.objs.size=C at hns₁ hsb₁ hDC hC hCle below ok ⊢;have hDle:s2.heap.objs.size<=D:=by rw[hD];exact Nat.le_refl _
 have I4:Inv (yy X N' scope cl C fp s2 H2) [] (yc k js σ) (upd H2 D (.lst [])) { s2 with heap:=h₁,toks:=s2.toks+([]:List (Str×Value)).length } :=
  zib I2 ok hDle hCle hDC keep hns₁ hl L.sub L.cap L.hN L.hk
 obtain⟨W,⟨m0,w0⟩,turn⟩:=q D (I2.hok.fresh hDle);have tn0:tn 0 h₁:=T.keep _ _ _ st2 λb _ o e=>keep b o e;have fr0:∀b∈fp,upd H2 D (.lst []) b=none:=λb hb=>by
  obtain⟨o,e,_⟩:=ho2 b hb;rw[zd (Nat.ne_of_lt (Nat.lt_of_lt_of_le (Heap.lt_size e) hDle))];exact(f2 b hb).1
 have stat:∀{H':Hp},(∀b∈fp,H' b=none)->∀b∈fp,FpOk (yy X N' scope cl C fp s2 H2) [] H' b:=λhn b hb=>by
  refine⟨hn b hb,(ok.exf b hb).1,ok.exfs b hb,.inl hb,(ok.exf b hb).2,λp hp=>absurd (show p∈([]:List (Addr×Obj)) from hp) (by simp)⟩
 have loop:∀s₃:Shared,s₃ = { s2 with heap:=h₁,toks:=s2.toks+([]:List (Str×Value)).length } ->
   codeAny (model X.prog X.w) X.A (.compLoop (.ListComp elt [⟨tg,iter,ifs,0⟩] scope pos) 0 (.ref it) (.ref D) (compEnvC scope cl C X.env)) (LcEnd X pins σ Q (.ref D) C) s₃:=by
  rintro s₃ rfl;refine zck (λn s'=>∃i σ' H',Inv (yy X N' scope cl C fp s2 H2) [] σ' H' s'/\tn i s'.heap/\(∀b∈fp,H' b=none)/\W i n σ' H') ?_ m0 ⟨0,_,_,I4,tn0,fr0,w0⟩;intro n s3 zz;refine gg λG zk=>?_;obtain⟨i,σ3,H3,I3,st3,fr3,w3⟩:=zz;refine zk ?_;clear zk;rcases turn i n σ3 H3 w3 with⟨stop,qn⟩ |⟨go,step⟩
  ·refine thn (T.done (yy X N' scope cl C fp s2 H2) rfl rfl rfl rfl i [] s3 σ3 H3 (λ_ _=>False) I3 (stat fr3) st3 stop) λr s4 ⟨hr,J4⟩=>?_;subst hr;obtain⟨m,hn,_⟩:=id J4.loc;have hs:X.s₀.heap.objs.size<=C:=Nat.le_trans I2.sz hCle;refine⟨.next,D,H3,m,rfl,rfl,I2.call' (ch:=fp) J4.os J4.base J4.hok J4.bare (λb hb=>?_),qn,hn,J4.free,λz=>?_,hs,λx c h z=>?_,λp hp z=>?_⟩
   ·obtain⟨f0,f1,f2',f3,f4,f5⟩:=f2 b hb;exact⟨f3,f1,f4,f5⟩
   ·have:=I2.lt;rw[<-z]at this;exact absurd (Nat.lt_of_lt_of_le this hCle) (Nat.lt_irrefl _)
   ·obtain⟨v,o,z1,_⟩:=I2.cell x c h;have:=Heap.lt_size z1;rw[z]at this;exact absurd (Nat.lt_of_lt_of_le this hCle) (Nat.lt_irrefl _)
   ·have:=Heap.lt_size (I2.pin p hp).1;rw[z]at this;exact absurd (Nat.lt_of_lt_of_le this hCle) (Nat.lt_irrefl _)
  ·refine thn (T.item (yy X N' scope cl C fp s2 H2) rfl rfl rfl rfl i [] s3 σ3 H3 (λ_ _=>False) I3 (stat fr3) st3 go) λr s4 ⟨u,hr,h4⟩=>?_;subst hr;refine thn h4 λ_ s5 zr4=>?_;obtain⟨x,H5,I5,r5,y5,st5,fr5⟩:=zr4;have I5':=I5.pinned (stat fr5) (T.obj _ _ st5);refine thn (hg C fp s2 H2 _ s5 σ3 H5 x u _ I5' r5 (step x H5 y5)) λ_ s6 zr6=>?_;obtain⟨σ6,H6,I6,q6⟩:=zr6;refine thn (ht C fp s2 H2 _ s6 σ6 H6 _ I6 q6) λok s7 ⟨H7,I7,q7⟩=>?_
   have again:∀{H8:Hp}{s8:Shared},Inv (yy X N' scope cl C fp s2 H2) ([]++zah fp s5.heap) σ6 H8 s8->(∃m',m' < n/\W (i+1) m' σ6 H8)->∃m,m<n/\∃i σ' H',Inv (yy X N' scope cl C fp s2 H2) [] σ' H' s8/\tn i s8.heap/\(∀b∈fp,H' b=none)/\W i m σ' H':=λ{H8 s8} I8 n8=>by
    obtain⟨m',hm,w8⟩:=n8;refine⟨m',hm,i+1,σ6,H8,I8.unpinned,T.keep _ _ _ st5 λb hb o e=>(I8.pin (b,o) (List.mem_append_right _ (List.mem_append_right _ (wf hb e)))).1,λb hb=>?_,w8⟩;obtain⟨o,e,d⟩:=T.obj _ _ st5 b hb;exact(I8.pin (b,o) (List.mem_append_right _ (List.mem_append_right _ (wf hb e)))).2.1
   cases ok with
   |false=>
    rw[if_neg Bool.false_ne_true]at q7;exact again I7 q7
   |true=>
    rw[if_pos rfl]at q7;refine thn (he C fp s2 H2 _ s7 σ6 H7 _ I7 q7) λy s8 zr19=>?_;obtain⟨v8,H8,I8,r8,q8⟩:=zr19;obtain⟨ys,e8,z8,w8⟩:=q8;refine thn (jg (X:=yy X N' scope cl C fp s2 H2) _ s8 σ6 H8 (.ref D) [v8] (.ref D) [y] (λv H=>∃m',m' < n/\W (i+1) m' σ6 H) I8 rfl (.cons r8 .nil) ⟨D,ys,v8,rfl,rfl,e8,z8,w8⟩) λ_ s9 zr21=>?_;obtain⟨v9,H9,I9,_,w9⟩:=zr21;exact again I9 w9
 exact codeAny_compStart_list (loop _ rfl) (T.self _ 0 _ _ _ tn0 (loop _ rfl))
theorem zqg{elt tg iter:Expr}{ifs:List Expr}{scope:Scope}{pos:Pos}{cl:List (Str×Addr)}{N' capt:List Str}{k:Nat}{js:List Nat}{wi:TI}{g:TG}{tt:TT}{te:TE}(hc:X.calm=true)(L:zic X scope cl N' capt k js)
  (hi:PI X tg iter wi) (hg:∀C fp s2 H2,PG (yy X N' scope cl C fp s2 H2) tg g) (ht:∀C fp s2 H2,PTs (yy X N' scope cl C fp s2 H2) ifs tt) (he:∀C fp s2 H2,PE (yy X N' scope cl C fp s2 H2) elt te)
  (hs:∀x,foldedSetIterable iter X.env x=pure x:=by intro _;rfl):PE X (.ListComp elt [⟨tg,iter,ifs,0⟩] scope pos) (tLC k js wi g tt te):=by
 intro pins s σ H Q I h;rw[eval_ListComp];refine wpAny_comprehension_free (use:=none) rfl hs L.clos L.kind L.names (thn (hi pins s σ H _ I h) λv s1 h1=>thn h1 λitv s2 h2=>?_);obtain⟨it,fp,tn,J,H2,e,I2,T,st2,f2,q⟩:=h2;subst e;refine thn (zdg (E:=X.xe) hc L hg ht he I2 T st2 f2 q) λacc s3 h3=>thn h3 λcenv s4 h4=>codeAny_mono h4 λr s' hr=>?_;obtain⟨f,D,H',m,rfl,rfl,J',qq,hn,b1,b2,b3,b4,b5⟩:=hr;exact⟨m,hn,λh' hsb=>⟨.ref D,H',LcEnd.let_go J' b1 b2 b3 b4 b5 hsb,rfl,qq⟩⟩
theorem zid{i:Nat}{x:Str}{elt tg iter:Expr}{ifs:List Expr}{scope:Scope}{pos pos' spos:Pos}{cl:List (Str×Addr)}{N' capt:List Str}{k:Nat}{js:List Nat}{wi:TI}{g:TG}{tt:TT}{te:TE}(hN:X.N.Nodup)(hi':X.N[i]?=some x)(hx:Loc X.env.scope x)(hc:X.calm=true)(L:zic X scope cl N' capt k js)
  (hi:PI X tg iter wi) (hg:∀C fp s2 H2,PG (yy X N' scope cl C fp s2 H2) tg g) (ht:∀C fp s2 H2,PTs (yy X N' scope cl C fp s2 H2) ifs tt) (he:∀C fp s2 H2,PE (yy X N' scope cl C fp s2 H2) elt te)
  (hsw:swapsWith (.ListComp elt [⟨tg,iter,ifs,0⟩] scope pos) (some (.Name x pos')) spos.line X.env=pure true:=by rfl)
  (hs:∀x,foldedSetIterable iter X.env x=pure x:=by intro _;rfl) (hf:X.fn x=true\/X.env.scope.names.lookup x=some .local:=by first|exact .inl rfl|exact .inr rfl|assumption):PS X (.Assign [.Name x pos'] (.ListComp elt [⟨tg,iter,ifs,0⟩] scope pos) spos) (zm3 (tLC k js wi g tt te) (zmc i)):=by
 intro pins s σ H D I h;have h:tLC k js wi g tt te σ H (λv H1=>D.nx (σ.set i (some v)) H1):=h;rw[exec_Assign_Name_used _ _ _ _ hsw];refine wpAny_bind (wpAny_standAt (wpAny_bind ?_));show wpAny _ X.A (do let _ <-comprehension (.ListComp elt [⟨tg,iter,ifs,0⟩] scope pos) scope X.env _ (newList []) false (eval iter X.env) (some (assign (.Name x pos') X.env))) _ _ s;refine wpAny_bind (wpAny_mono (wpAny_comprehension_free (use:=some (assign (.Name x pos') X.env)) (Q:=λ_ s'=>SP X pins D .next s') rfl hs L.clos L.kind L.names
  (thn (hi pins s σ H _ I h) λv s1 h1=>thn h1 λitv s2 h2=>?_)) (λ_ s' hq=>wpAny_pure (wpAny_pure hq)) λ_ _ e=>e)
 obtain⟨it,fp,tn,J,H2,e,I2,T,st2,f2,q⟩:=h2;subst e;refine thn (zdg (E:=X.xe) hc L hg ht he I2 T st2 f2 q) λacc s3 h3=>thn h3 λcenv s4 h4=>codeAny_mono h4 λr s' hr=>?_;obtain⟨f,D',H',m,rfl,rfl,J',qq,hn,b1,b2,b3,b4,b5⟩:=hr;show wpAny _ X.A (assign (.Name x pos') X.env (.ref D')) _ _ _;refine wpAny_assign_Name (zbr (v:=.ref D') J' hN hi' hx rfl (λs'' J'' hsb=>?_) hf);obtain⟨a,hsb,ha⟩:=hsb;have hne:cenv.locals≠a:=by
  rcases ha with z|z
  ·rw[z];exact b2
  ·exact λz'=>b4 x a z z'.symm
 exact⟨m,hn.sameBut hsb hne,λh' hs'=>⟨_,H',LcEnd.let_go J'' b1 b2 b3 b4 b5 hs',qq⟩⟩
end
section
variable {X:Cx}{pins:List (Addr×Obj)}{σ:St}{H:Hp}{s:Shared}
theorem Inv.turnedNew{ch:List Addr}{p:Addr}{o:HO}{h':Heap}{t':Nat}(I:Inv X pins σ H s)(hch:∀b∈ch,FpOk X pins H b)(hp:s.heap.objs.size<=p)
  (k:∀b u,b∉ch->s.heap.get? b=some u->h'.get? b=some u) (new:ObjOk X.prog X.w (upd H p o) h' p o):Inv X pins σ (upd H p o) { s with heap:=h',toks:=t' }:=by
 have hn:=I.hok.fresh hp;have nch:∀b u,H b=some u->b∉ch:=λb u e z=>by rw[(hch b z).1]at e;cases e
 refine I.step (g':=s.gens) (d':=s.drawn) (ch:=ch) (λb hb=>?_) (λb u _ _ hc e _=>k b u hc e) (λb u _ _ hc e _=>⟨u.slots,k b u hc e⟩) (λb u hc e n=>?_) (λb u hc e=>⟨u,k b u hc e⟩)
  (λb xs e=>by rw[zd (zj e hn)];exact e) (λb u xs e=>by rw[zd (zj e hn)];exact e) (λb ps e=>⟨#[],by rw[zd (zj e hn),e];simp⟩) (λm hm=>?_) (λb u e=>?_) I.bare
 ·obtain⟨f0,f1,f2,f3,f4,f5⟩:=hch b hb;exact⟨f3,f1,f4,f5⟩
 ·rw[zd (Nat.ne_of_lt (Nat.lt_of_lt_of_le (Heap.lt_size e) hp))];exact n
 ·obtain⟨o',es,ep,ho,r⟩:=hm;exact⟨o',es,ep,k _ o' (λz=>(hch _ z).2.1 rfl) ho,r⟩
 ·by_cases hb:b=p
  ·subst hb;rw[ze]at e
   cases e;exact new
  ·rw[zd hb]at e;refine(I.hok b u e).stay (λc v hc q=>k c v ?_ q) (λc q=>by rw[zd (zj q hn)];exact q) (λc xs q=>by rw[zd (zj q hn)];exact q) (λc _ _ q=>by rw[zd (zj q hn)];exact q);rcases hc with z|z
   ·rw[z];exact nch b u e
   ·exact nch c _ z
theorem Inv.turnedL{ch:List Addr}{h':Heap}{t':Nat}(I:Inv X pins σ H s)(hch:∀b∈ch,FpOk X pins H b)
  (k:∀b u,b∉ch->s.heap.get? b=some u->h'.get? b=some u):Inv X pins σ H { s with heap:=h',toks:=t' }:=by
 have nch:∀b u,H b=some u->b∉ch:=λb u e z=>by rw[(hch b z).1]at e;cases e
 refine I.step (g':=s.gens) (d':=s.drawn) (ch:=ch) (λb hb=>?_) (λb u _ _ hc e _=>k b u hc e) (λb u _ _ hc e _=>⟨u.slots,k b u hc e⟩) (λb u hc e n=>n) (λb u hc e=>⟨u,k b u hc e⟩)
  (λb xs e=>e) (λb u xs e=>e) (λb ps e=>⟨#[],by rw[e];simp⟩) (λm hm=>?_) (λb u e=>?_) I.bare
 ·obtain⟨f0,f1,f2,f3,f4,f5⟩:=hch b hb;exact⟨f3,f1,f4,f5⟩
 ·obtain⟨o',es,ep,ho,r⟩:=hm;exact⟨o',es,ep,k _ o' (λz=>(hch _ z).2.1 rfl) ho,r⟩
 ·refine(I.hok b u e).stay (λc v hc q=>k c v ?_ q) (λc q=>q) λc xs q=>q;rcases hc with z|z
  ·rw[z];exact nch b u e
  ·exact nch c _ z
end
section
variable {X:Cx}
theorem zg3{bs:List Bool}{its:List Value}(r:Vals (bs.map V.bl) its):(List.range its.toArray.size).all (λi=>bs.getD i true)=bs.all id:=by
 have hl:its.toArray.size=bs.length:=by have:=r.length;simp at this ⊢;omega
 rw[hl];clear hl r;apply Bool.eq_iff_iff.mpr;simp only[List.all_eq_true,List.mem_range,id];constructor
 ·intro h b hb;obtain⟨i,hi,e⟩:=List.getElem_of_mem hb;have:=h i hi;simp[List.getD,hi,e]at this;exact this
 ·intro h i hi;simp only[List.getD,List.getElem?_eq_getElem hi,Option.getD_some];exact h _ (List.getElem_mem hi)
theorem zie{bs:List Bool}{its:List Value}(r:Vals (bs.map V.bl) its)(i:Nat)(v:Value)(h:its.toArray[i]?=some v):v=.bool (bs.getD i true):=by
 have h':its[i]?=some v:=by simpa using h
 have hi:i<its.length:=(List.getElem?_eq_some_iff.mp h').1;have hb:i<bs.length:=by have:=r.length;simp at this;omega
 obtain⟨u,hu,ru⟩:=r.get (i:=i) (x:=.bl bs[i]) (by simp[hb]);rw[h']at hu
 cases hu;have ru:v=.bool bs[i]:=ru;rw[ru];simp[List.getD,hb]
theorem zg4{A:Around}{E:Value->Shared->Prop}{s:Shared}{l:Addr}{its:Array Value}{Q:Value->Shared->Prop}{prog:Program}{w:World}(hl:s.heap.IsList l its)
  (h:∀s2:Shared,s2 = { s with heap:=s.heap.push { cls:=.type "list_iterator",data:=.fields #[.ref l,.int 0 0] } } ->
   (s2.heap.IsListIter s.heap.objs.size l 0/\s2.heap.IsList l its)->l≠s.heap.objs.size->Q (.ref s.heap.objs.size) s2) :
  wpAny (model prog w) A (pyIter (.ref l)) Q E s:=by
 have hlt:l<s.heap.objs.size:=by obtain⟨_,e,_⟩:=hl;exact Heap.lt_size e
 exact wpAny_pyIter_list hl (h _ rfl ⟨⟨_,Heap.get?_push_size _ rfl,rfl,rfl⟩,hl.push _⟩ (Nat.ne_of_lt hlt))
theorem zif(hc:X.calm=true):xm X (.builtin "all") (λxs H Q=>∃(p:Addr) (bs:List Bool),xs = [.ref p]/\SqL X.K H p (bs.map V.bl)/\Q (.bl (bs.all id)) H):=by
 intro pins s σ H xs us Q I rv h;obtain⟨p,bs,rfl,hq,q⟩:=h;obtain⟨u,rfl,r1⟩:=rv.one
 cases r1;obtain⟨its,rvs,pl,hz⟩:=I.list hq;refine call_all_walk (zg4 pl.isList λs2 e st hne=>?_);subst e;refine⟨_,_,_,_,_,_,λi=>bs.getD i true,rfl,Walks.list (A:=X.A.in1) (I.ok.hd hc) _ p hne its.toArray,st,λi v s Q E hP hQ=>?_,λh' tk hk=>?_⟩
 ·rw[zie rvs i v hP];exact wpAny_truthy_bool hQ
 ·rw[zg3 rvs];refine⟨.bl (bs.all id),H,I.kept (λb o e=>hk b o (λz=>?_) (Heap.get?_push_of_some _ e)),rfl,q⟩;rw[List.mem_singleton.mp z]at e;exact Nat.lt_irrefl _ (Heap.lt_size e)
def zqh(i j:Int):Prop:=0<j/\j<10000000000000000000000000000000000000000000000000000000000000
theorem zdh:OpR X (binaryOp .FloorDiv) (rI zqh λi j=>.int (i / j)):=opI λi j _ _ _ _ _ hc q=>by
 have h0:j≠0:=by have:=hc.1;omega
 have e:i.fdiv j=i / j:=Int.fdiv_eq_ediv_of_nonneg i (by have:=hc.1;omega);refine floordiv_int h0 (by rw[e];exact q) (.inl (PyProof.noPylong_of_log2 ?_));have h1:j.natAbs<2 ^ 400:=Nat.lt_of_lt_of_le (show j.natAbs<10000000000000000000000000000000000000000000000000000000000000 by have h1:=hc.1;have h2:=hc.2;omega) (by decide +kernel);have h2:j.natAbs≠0:=by omega
 exact Nat.lt_of_lt_of_le ((Nat.log2_lt h2).mpr h1) (by decide)
end
def w6(P:Program)(w:World)(K:PySem.W.Frag)(mg:Str->Option Value)(base:Heap)(k:Nat)(x:Str)(ps:List Str)(sp:Sp):Prop :=
 ∃f fd,FnOk P w K mg base CX0 k f fd ps sp/\Binds K fd ps []/\PySem.W.keepIn K (.ref f)=true/\mg x=some (.ref f)
theorem kl{X:Cx}{k k':Nat}{x:Str}{ps:List Str}{sp:Sp}{e:Expr}{es:List Expr}{t:TA}{p pos:Pos}(C:w6 X.prog X.w X.K X.mg X.base k x ps sp)(hr:Room k' X.A)(hg:Gl X x)(ha:PA X (e::es) t)(hk:k<=k':=by decide)
  (hdb:(x ==("__debug__" : Str))=false:=by decide) (he:starEach (e::es) X.env=(false,eval e X.env)::starEach es X.env:=by rfl) (hpl:(backTo pos (starEach es X.env)).any (·.1)=false:=by rfl) :
  PE X (.Call (.Name x p) (e::es) [] pos) (zfz sp [] E0 t):=by
 intro pins s σ H Q I h;obtain⟨f,fd,F,b,kp,m⟩:=C;exact h8 F (hr.mono hk) hg m kp b .nil zf2 ha hdb he hpl pins s σ H Q I h
def But(p:Addr)(H H':Hp):Prop:=∀b o,b≠p->H b=some o->H' b=some o
theorem But.refl(p:Addr)(H:Hp):But p H H:=λ_ _ _ h=>h
theorem But.trans{p:Addr}{H H1 H2:Hp}(a:But p H H1)(b:But p H1 H2):But p H H2:=λc o n h=>b c o n (a c o n h)
theorem But.of_same{p:Addr}{H H':Hp}(h:Same H H'):But p H H':=λb o _ q=>h b o q
theorem But.write{p:Addr}{H:Hp}{o:HO}:But p H (upd H p o):=λb u n q=>by rw[zd n];exact q
theorem Same.but{p:Addr}{H H1 H2:Hp}(a:Same H H1)(hp:H p=none)(b:But p H1 H2):Same H H2:=λc o h=>b c o (zj h hp) (a c o h)
theorem zt{H:Hp}{p:Addr}(h:H p=none)(o:HO):Same H (upd H p o):=λb u q=>by rw[zd (zj q h)];exact q
def Pen(H:Hp)(p:Addr):Prop:=∃a b c:Int,H p=some (.lst [.int a,.int b,.int c])
theorem zqi{n:Nat}(h:n<=10000):n<sizeLine:=Nat.lt_of_le_of_lt h (by decide)
theorem znj{α:Type}{xs:List α}{k:Int}(h0:0<=k)(h1:k<xs.length):∃v,atI xs k=some v/\xs[k.toNat]?=some v:=by
 have hk:k.toNat<xs.length:=by omega
 have ek:k=((k.toNat:Nat):Int):=by omega
 have q:atI xs ((k.toNat:Nat):Int)=some xs[k.toNat]:=zf1 (List.getElem?_eq_getElem hk);rw[<-ek]at q;exact⟨_,q,List.getElem?_eq_getElem hk⟩
def NextLC(n i:Nat)(D:Addr)(Wv:Nat->St->Hp->Prop)(σ2:St)(y:V)(H4:Hp):Prop :=
 ∃ys,H4 D=some (.lst ys)/\ys.length<sizeLine/\∃m',m' < n-i/\(m'=n-(i+1)/\i+1<=n/\Wv (i+1) σ2 (upd H4 D (.lst (ys ++ [y]))))
def SkipLC(n i:Nat)(Wv:Nat->St->Hp->Prop)(σ2:St)(H3:Hp):Prop:=∃m',m' < n-i/\(m'=n-(i+1)/\i+1<=n/\Wv (i+1) σ2 H3)
theorem NextLC.mk{n i:Nat}{D:Addr}{Wv:Nat->St->Hp->Prop}{σ2:St}{y:V}{H4:Hp}(hi:i<n){ys:List V}(e:H4 D=some (.lst ys))(z:ys.length<=10000)(w:Wv (i+1) σ2 (upd H4 D (.lst (ys ++ [y])))):NextLC n i D Wv σ2 y H4 :=
 ⟨ys,e,zqi z,n-(i+1),by omega,rfl,hi,w⟩
theorem SkipLC.mk{n i:Nat}{Wv:Nat->St->Hp->Prop}{σ2:St}{H3:Hp}(hi:i<n)(w:Wv (i+1) σ2 H3):SkipLC n i Wv σ2 H3:=⟨n-(i+1),by omega,rfl,hi,w⟩
section
variable {prog:Program}{w:World}{A:Around}{E:Value->Shared->Prop}{s:Shared}
end
def zIt(b:Bool)(h:Heap)(it l:Addr)(i:Nat):Prop:=if b=true then h.IsTupleIter it l i else h.IsListIter it l i
theorem zIt.at{b:Bool}{h h':Heap}{it l:Addr}{i:Nat}(x:zIt b h it l i)(e:∀o,h.get? it=some o->h'.get? it=some o):zIt b h' it l i:=by
 cases b
 ·exact Heap.IsListIter.at (show h.IsListIter it l i from x) e
 ·exact Heap.IsTupleIter.at (show h.IsTupleIter it l i from x) e
theorem zIt.own{b:Bool}{h:Heap}{it l:Addr}{i:Nat}(x:zIt b h it l i):∃o,h.get? it=some o/\∀v,o.data ≠ .cell v:=by
 cases b
 ·obtain⟨o,e,c,d⟩:=(show h.IsListIter it l i from x)
  exact⟨o,e,λv q=>by rw[d]at q;cases q⟩
 ·obtain⟨o,e,c,d⟩:=(show h.IsTupleIter it l i from x)
  exact⟨o,e,λv q=>by rw[d]at q;cases q⟩
section
variable {prog:Program}{w:World}{A:Around}{E:Value->Shared->Prop}{s:Shared}
end
section
variable {X:Cx}
def zqj:TE:=λ_ H Q=>∀p,H p=none->Q (.ref p) (upd H p (.dK []))
theorem zk4{pos:Pos}:PE X (.Dict [] [] pos) zqj:=λpins s σ H Q I h=>by
 have big:sysModules<s.heap.objs.size:=Nat.lt_trans (by decide) (show mainGlobals<s.heap.objs.size from(I.mod.glob.keeps I.bk).lt);refine wpAny_Dict_empty ⟨.ref s.heap.objs.size,_,I.laid (a:=s.heap.objs.size) (o:=.dK []) (t':=s.toks) (λ_ _ q=>Heap.get?_push_of_some _ q) (Nat.le_refl _) ⟨Nat.zero_le _,beq_eq_false_iff_ne.mpr (Ne.symm (Nat.ne_of_lt big)),[],.nil,Heap.DictOf.new s.heap⟩,rfl,h _ (I.hok.fresh (Nat.le_refl _))⟩
end
inductive Kn(H:Hp):V->Prop
 |non:Kn H .non
 |bl (b:Bool):Kn H (.bl b)
 |int (i:Int):Kn H (.int i)
 |str (x:Str):Kn H (.str x)
 |lst {a:Addr}{xs:List V} (e:H a=some (.lst xs)):Kn H (.ref a)
 |tup {a:Addr}{xs:List V} (e:H a=some (.tup xs)):Kn H (.ref a)
 |dct {a:Addr}{ks:List (Key×V)} (e:H a=some (.dK ks)):Kn H (.ref a)
def qg(H:Hp):V->Option (List V)
 |.ref a=>match H a with|some (.tup xs)=>some xs|_=>none
 |_=>none
theorem zb1{H:Hp}{a:Addr}{xs:List V}(e:H a=some (.tup xs)):qg H (.ref a)=some xs:=by unfold qg;simp only[e]
def Th:Nat->Hp->V->Prop
 |0,H,x=>Kn H x
 |n+1,H,x=>Kn H x/\∀xs,qg H x=some xs->∀y∈xs,Th n H y
theorem Th.tup{n:Nat}{H:Hp}{a:Addr}{xs:List V}(e:H a=some (.tup xs))(h:∀y∈xs,Th n H y):Th (n+1) H (.ref a) :=
 ⟨.tup e,λys e' y hy=>by rw[zb1 e]at e';cases e';exact h y hy⟩
theorem Th.flat{n:Nat}{H:Hp}{x:V}(h:Kn H x)(e:qg H x=none):Th n H x:=by
 cases n with
 |zero=>exact h
 |succ n=>exact⟨h,λxs e'=>by rw[e]at e';cases e'⟩
theorem Th.int(n:Nat)(H:Hp)(i:Int):Th n H (.int i):=Th.flat (.int i) rfl
theorem Th.str(n:Nat)(H:Hp)(x:Str):Th n H (.str x):=Th.flat (.str x) rfl
theorem Th.non(n:Nat)(H:Hp):Th n H .non:=Th.flat .non rfl
theorem Th.lst(n:Nat){H:Hp}{a:Addr}{xs:List V}(e:H a=some (.lst xs)):Th n H (.ref a):=Th.flat (.lst e) (by unfold qg;simp only[e])
theorem Th.dct(n:Nat){H:Hp}{a:Addr}{ks:List (Key×V)}(e:H a=some (.dK ks)):Th n H (.ref a):=Th.flat (.dct e) (by unfold qg;simp only[e])
theorem zet{α:Type}{xs:List α}{k:Int}(h0:0<=k)(h1:k<xs.length):∃v,atI xs k=some v/\v∈xs:=by
 obtain⟨v,h,e⟩:=znj h0 h1;exact⟨v,h,List.mem_of_getElem? e⟩
def NoD(H:Hp)(x:V):Prop:=∀a,x=.ref a->(∃xs,H a=some (.lst xs))\/∃xs,H a=some (.tup xs)
end L2
namespace L2
end L2
namespace L2
open PySem
theorem zbf{es:List Expr}{x1}{pos:Pos}{rest:List Expr}{env:Env}:starEach (.Tuple es x1 pos::rest) env=(false,eval (.Tuple es x1 pos) env)::starEach rest env:=by rw[starEach];intro e p h;cases h
theorem znk{es:List Expr}{pos:Pos}{rest:List Expr}{env:Env}:starEach (.List es pos::rest) env=(false,eval (.List es pos) env)::starEach rest env:=by rw[starEach];intro e p h;cases h
theorem zw{c j}{pos:Pos}{rest:List Expr}{env:Env}:starEach (.Constant c j pos::rest) env=(false,eval (.Constant c j pos) env)::starEach rest env:=by rw[starEach];intro e p h;cases h
end L2
namespace L2
open PySem PySem.Spec PyProof.Rows
end L2
namespace L2
open PySem
theorem zqk{X:Cx}{e:Expr}{t:TT}(h:PW X e t):PT X e t:=h.pt
end L2
namespace L2
open PySem PySem.Spec PyProof.Rows
def Ts:Nat->Hp->V->Prop
 |0,H,x=>Kn H x/\NoD H x
 |n+1,H,x=>Kn H x/\∀xs,qg H x=some xs->∀y∈xs,Ts n H y
theorem Ts.tup{n:Nat}{H:Hp}{a:Addr}{xs:List V}(e:H a=some (.tup xs))(h:∀y∈xs,Ts n H y):Ts (n+1) H (.ref a) :=
 ⟨.tup e,λys e' y hy=>by rw[zb1 e]at e';cases e';exact h y hy⟩
theorem Ts.flat{n:Nat}{H:Hp}{x:V}(h:Kn H x)(e:qg H x=none)(d:NoD H x):Ts n H x:=by
 cases n with
 |zero=>exact⟨h,d⟩
 |succ n=>exact⟨h,λxs e'=>by rw[e]at e';cases e'⟩
theorem Ts.int(n:Nat)(H:Hp)(i:Int):Ts n H (.int i):=Ts.flat (.int i) rfl (λ_ z=>by cases z)
theorem Ts.str(n:Nat)(H:Hp)(x:Str):Ts n H (.str x):=Ts.flat (.str x) rfl (λ_ z=>by cases z)
theorem Ts.non(n:Nat)(H:Hp):Ts n H .non:=Ts.flat .non rfl (λ_ z=>by cases z)
theorem Ts.lst(n:Nat){H:Hp}{a:Addr}{xs:List V}(e:H a=some (.lst xs)):Ts n H (.ref a):=Ts.flat (.lst e) (by unfold qg;simp only[e]) (λc z=>by cases z;exact .inl ⟨xs,e⟩)
theorem Ts.dct(n:Nat){H:Hp}{a:Addr}{ks:List (Key×V)}(e:H a=some (.dK ks)):Ts (n+1) H (.ref a):=⟨.dct e,λxs e'=>by unfold qg at e';simp only[e]at e';cases e'⟩
open AutoSeq1 (wpAny_loadPart')
section
variable {X:Cx}
end
end L2
namespace L2
end L2
namespace L2
open PySem PySem.Spec PyProof.Rows
section
variable {X:Cx}{a b c d:Expr}{ta tb tc td:TE}{pos:Pos}
end
abbrev D:=PyData
def kD:Key->D
 |.inl i=>.int i
 |.inr x=>.str x
def jh(a:Addr):HO:=.ext λh=>∃(x y z:Int) (tx ty tz:Tok) (n:Nat),h.get? a=some { cls:=.type "list",data:=.seq #[.int x tx,.int y ty,.int z tz] n }
def HO.per:HO->Bool
 |.tup _=>true
 |.frz _ _=>true
 |.ext _=>true
 |_=>false
def Pers(H H':Hp):Prop:=∀a o,H a=some o->o.per=true->H' a=some o
theorem Pers.refl(H:Hp):Pers H H:=λ_ _ h _=>h
theorem Pers.trans{H H1 H2:Hp}(a:Pers H H1)(b:Pers H1 H2):Pers H H2:=λc o h p=>b c o (a c o h p) p
theorem Same.pers{H H':Hp}(s:Same H H'):Pers H H':=λa o h _=>s a o h
theorem Pers.sqT{K:PySem.W.Frag}{H H':Hp}{a:Addr}{xs:List V}(p:Pers H H')(h:SqT K H a xs):SqT K H' a xs:=by
 rcases h with(h |⟨o,h⟩)|h
 ·exact .inl (.inl (p _ _ h rfl))
 ·exact .inl (.inr ⟨o,p _ _ h rfl⟩)
 ·exact .inr h
section
variable (K:PySem.W.Frag)
mutual
inductive Rep(H:Hp):D->V->Prop
 |non:Rep H .none .non
 |bl {b:Bool}:Rep H (.bool b) (.bl b)
 |int {i:Int}:Rep H (.int i) (.int i)
 |str {x:Str}:Rep H (.str x) (.str x)
 |tup {xs:List D}{a:Addr}{vs:List V} (h:SqT K H a vs) (r:Reps H xs vs):Rep H (.tuple xs) (.ref a)
 |lst {xs:List D}{a:Addr}{vs:List V}{o:Obj} (h:H a=some (.frz o (.lst vs))) (r:Reps H xs vs):Rep H (.list xs) (.ref a)
 |dic {kvs:List (D×D)}{a:Addr}{kws:List (Key×V)}{o:Obj} (h:H a=some (.frz o (.dK kws))) (r:RepK H kvs kws):Rep H (.dict kvs) (.ref a)
inductive Reps(H:Hp):List D->List V->Prop
 |nil:Reps H [] []
 |cons {d:D}{v:V}{ds:List D}{vs:List V} (r:Rep H d v) (t:Reps H ds vs):Reps H (d::ds) (v::vs)
inductive RepK(H:Hp):List (D×D)->List (Key×V)->Prop
 |nil:RepK H [] []
 |cons {k:Key}{d:D}{v:V}{ds:List (D×D)}{vs:List (Key×V)} (r:Rep H d v) (t:RepK H ds vs):RepK H ((kD k,d)::ds) ((k,v)::vs)
end
end
section
variable {K:PySem.W.Frag}{H H':Hp}
theorem Rep.mono(p:Pers H H'){d:D}{v:V}(h:Rep K H d v):Rep K H' d v :=
 Rep.rec (motive_1:=λd v _=>Rep K H' d v) (motive_2:=λds vs _=>Reps K H' ds vs) (motive_3:=λds vs _=>RepK K H' ds vs) .non .bl .int .str (λh _ i=>.tup (p.sqT h) i) (λh _ i=>.lst (p _ _ h rfl) i) (λh _ i=>.dic (p _ _ h rfl) i) .nil (λ_ _ i j=>.cons i j) .nil (λ_ _ i j=>.cons i j) h
theorem Reps.ind{P:List D->List V->Prop}(n:P [] [])(c:∀d v ds vs,Rep K H d v->Reps K H ds vs->P ds vs->P (d::ds) (v::vs)){ds:List D}{vs:List V}(h:Reps K H ds vs):P ds vs :=
 Reps.rec (motive_1:=λ_ _ _=>True) (motive_2:=λds vs _=>P ds vs) (motive_3:=λ_ _ _=>True) trivial trivial trivial trivial (λ_ _ _=>trivial) (λ_ _ _=>trivial) (λ_ _ _=>trivial) n (λr t _ j=>c _ _ _ _ r t j) trivial (λ_ _ _ _=>trivial) h
theorem Reps.mono(p:Pers H H'){ds:List D}{vs:List V}(h:Reps K H ds vs):Reps K H' ds vs:=h.ind .nil λ_ _ _ _ r _ j=>.cons (r.mono p) j
theorem RepK.mono(p:Pers H H'){ds:List (D×D)}{vs:List (Key×V)}(h:RepK K H ds vs):RepK K H' ds vs :=
 RepK.rec (motive_1:=λ_ _ _=>True) (motive_2:=λ_ _ _=>True) (motive_3:=λds vs _=>RepK K H' ds vs) trivial trivial trivial trivial (λ_ _ _=>trivial) (λ_ _ _=>trivial) (λ_ _ _=>trivial) trivial (λ_ _ _ _=>trivial) .nil (λr _ _ j=>.cons (r.mono p) j) h
theorem Reps.length{ds:List D}{vs:List V}(h:Reps K H ds vs):ds.length=vs.length:=h.ind (P:=λds vs=>ds.length=vs.length) rfl λ_ _ _ _ _ _ j=>congrArg (·+1) j
theorem Reps.append{ds es:List D}{vs ws:List V}(h:Reps K H ds vs)(s:Reps K H es ws):Reps K H (ds++es) (vs++ws):=h.ind (P:=λds vs=>Reps K H (ds++es) (vs++ws)) s λ_ _ _ _ r _ j=>.cons r j
theorem Reps.get{ds:List D}{vs:List V}{i:Nat}{d:D}(h:Reps K H ds vs):ds[i]?=some d->∃v,vs[i]?=some v/\Rep K H d v :=
 h.ind (P:=λds vs=>∀i:Nat,ds[i]?=some d->∃v,vs[i]?=some v/\Rep K H d v) (λ_ e=>nomatch e) (λd' v ds vs r _ j i e=>by
  cases i with
  |zero=>cases e;exact⟨v,rfl,r⟩
  |succ i=>exact j i e) i
theorem Reps.take{ds:List D}{vs:List V}(n:Nat)(h:Reps K H ds vs):Reps K H (ds.take n) (vs.take n) :=
 h.ind (P:=λds vs=>∀n:Nat,Reps K H (ds.take n) (vs.take n)) (λn=>by rw[List.take_nil,List.take_nil];exact .nil) (λ_ _ _ _ r _ j n=>by
  cases n with
  |zero=>exact .nil
  |succ n=>exact .cons r (j n)) n
theorem Reps.drop{ds:List D}{vs:List V}(n:Nat)(h:Reps K H ds vs):Reps K H (ds.drop n) (vs.drop n) :=
 h.ind (P:=λds vs=>∀n:Nat,Reps K H (ds.drop n) (vs.drop n)) (λn=>by rw[List.drop_nil,List.drop_nil];exact .nil) (λ_ _ _ _ r t j n=>by
  cases n with
  |zero=>exact .cons r t
  |succ n=>exact j n) n
theorem Reps.set{d:D}{v:V}(r:Rep K H d v){ds:List D}{vs:List V}(i:Nat)(h:Reps K H ds vs):Reps K H (ds.set i d) (vs.set i v) :=
 h.ind (P:=λds vs=>∀i:Nat,Reps K H (ds.set i d) (vs.set i v)) (λ_=>.nil) (λ_ _ _ _ q t j i=>by
  cases i with
  |zero=>exact .cons r t
  |succ i=>exact .cons q (j i)) i
theorem Reps.reverse{ds:List D}{vs:List V}(h:Reps K H ds vs):Reps K H ds.reverse vs.reverse:=by
 induction ds generalizing vs with
 |nil=>cases h;exact .nil
 |cons d ds ih=>
  cases h with
  |cons r t=>rw[List.reverse_cons,List.reverse_cons];exact(ih t).append (.cons r .nil)
theorem Reps.rep{ds:List D}{vs:List V}(h:Reps K H ds vs):∀k:Nat,Reps K H (List.replicate k ds).flatten (List.replicate k vs).flatten
 |0=>.nil
 |k+1=>by
  rw[List.replicate_succ,List.replicate_succ,List.flatten_cons,List.flatten_cons];exact h.append (h.rep k)
theorem Reps.ints:∀{ns:List Int},Reps K H (ns.map PyData.int) (ns.map V.int)
 |[]=>.nil
 |_::_=>.cons .int Reps.ints
theorem Reps.same(s:Same H H'){ds:List D}{vs:List V}(r:Reps K H ds vs):Reps K H' ds vs:=r.mono s.pers
theorem Rep.same(s:Same H H'){d:D}{v:V}(r:Rep K H d v):Rep K H' d v:=r.mono s.pers
end
section
variable (K:PySem.W.Frag)
mutual
inductive RepN(H:Hp):D->V->Prop
 |non:RepN H .none .non
 |bl {b:Bool}:RepN H (.bool b) (.bl b)
 |int {i:Int}:RepN H (.int i) (.int i)
 |str {x:Str}:RepN H (.str x) (.str x)
 |tup {xs:List D}{a:Addr}{vs:List V} (h:SqT K H a vs) (r:RepNs H xs vs):RepN H (.tuple xs) (.ref a)
 |lst {xs:List D}{a:Addr}{vs:List V} (h:Rd H a (.lst vs)) (r:RepNs H xs vs):RepN H (.list xs) (.ref a)
inductive RepNs(H:Hp):List D->List V->Prop
 |nil:RepNs H [] []
 |cons {d:D}{v:V}{ds:List D}{vs:List V} (r:RepN H d v) (t:RepNs H ds vs):RepNs H (d::ds) (v::vs)
end
end
section
variable {K:PySem.W.Frag}{H H':Hp}
theorem Same.rd(s:Same H H'){a:Addr}{u:HO}(h:Rd H a u):Rd H' a u:=by
 rcases h with h |⟨o,h⟩
 ·exact .inl (s _ _ h)
 ·exact .inr ⟨o,s _ _ h⟩
theorem RepN.gen(ht:∀{a vs},SqT K H a vs->SqT K H' a vs)(hl:∀{a vs},Rd H a (.lst vs)->Rd H' a (.lst vs)){d:D}{v:V}(h:RepN K H d v):RepN K H' d v :=
 RepN.rec (motive_1:=λd v _=>RepN K H' d v) (motive_2:=λds vs _=>RepNs K H' ds vs) .non .bl .int .str (λh _ i=>.tup (ht h) i) (λh _ i=>.lst (hl h) i) .nil (λ_ _ i j=>.cons i j) h
theorem RepNs.ind{P:List D->List V->Prop}(n:P [] [])(c:∀d v ds vs,RepN K H d v->RepNs K H ds vs->P ds vs->P (d::ds) (v::vs)){ds:List D}{vs:List V}(h:RepNs K H ds vs):P ds vs :=
 RepNs.rec (motive_1:=λ_ _ _=>True) (motive_2:=λds vs _=>P ds vs) trivial trivial trivial trivial (λ_ _ _=>trivial) (λ_ _ _=>trivial) n (λr t _ j=>c _ _ _ _ r t j) h
theorem RepN.same(s:Same H H'){d:D}{v:V}(h:RepN K H d v):RepN K H' d v:=h.gen (λh=>s.pers.sqT h) (λh=>s.rd h)
theorem Rep.now{d:D}{v:V}(h:Rep K H d v):(∀kvs,d ≠ .dict kvs)->d.canLay0=true->RepN K H d v :=
 Rep.rec (motive_1:=λd v _=>(∀kvs,d ≠ .dict kvs)->d.canLay0=true->RepN K H d v) (motive_2:=λds vs _=>PyData.canLayAll0 ds=true->RepNs K H ds vs) (motive_3:=λ_ _ _=>True)
  (λ_ _=>.non) (λ_ _=>.bl) (λ_ _=>.int) (λ_ _=>.str) (λh _ i _ c=>.tup h (i (by simpa[PyData.canLay0]using c))) (λh _ i _ c=>.lst (.inr ⟨_,h⟩) (i (by simpa[PyData.canLay0]using c))) (λ_ _ _ n _=>absurd rfl (n _))
  (λ_=>.nil) (λ_ _ i j c=>by
   simp only[PyData.canLayAll0,Bool.and_eq_true]at c;exact .cons (i (λkvs e=>by subst e;simp[PyData.canLay0]at c) c.1) (j c.2)) trivial (λ_ _ _ _=>trivial) h
theorem Reps.now{ds:List D}{vs:List V}(h:Reps K H ds vs):PyData.canLayAll0 ds=true->RepNs K H ds vs :=
 h.ind (P:=λds vs=>PyData.canLayAll0 ds=true->RepNs K H ds vs) (λ_=>.nil) λ_ _ _ _ r _ j c=>by
  simp only[PyData.canLayAll0,Bool.and_eq_true]at c;exact .cons (r.now (λkvs e=>by subst e;simp[PyData.canLay0]at c) c.1) (j c.2)
theorem RepN.frz{a:Addr}{vs:List V}{o:Obj}(e:H a=some (.lst vs)){d:D}{v:V}(h:RepN K H d v):RepN K (upd H a (.frz o (.lst vs))) d v:=by
 have ne:∀{b:Addr}{u:HO},H b=some u->u ≠ .lst vs->b≠a:=λ{b u} h n z=>by rw[z,e]at h;cases h;exact n rfl
 refine h.gen (λ{b ws} h=>?_) (λ{b ws} h=>?_)
 ·rcases h with(h |⟨o,h⟩)|h
  ·exact .inl (.inl (by rw[zd (ne h (by intro z;cases z))];exact h))
  ·exact .inl (.inr ⟨o,by rw[zd (ne h (by intro z;cases z))];exact h⟩)
  ·exact .inr h
 ·rcases h with h |⟨o',h⟩
  ·by_cases z:b=a
   ·subst z;rw[e]at h
    cases h;exact .inr ⟨_,ze⟩
   ·exact .inl (by rw[zd z];exact h)
  ·exact .inr ⟨o',by rw[zd (ne h (by intro z;cases z))];exact h⟩
end
inductive Mx where
 |v (d:D)|l (xs:List D)
inductive O where
 |lst (xs:List D)
 |dct (kvs:List (Key×D))
 |nst (xss:List (List D)) (ds:List D)
 |anc (a:Addr) (o:O)
 |ins (c:Str) (fs:List (Str×D))
 |mix (ms:List Mx)
 |tk (ks:List Key)
 |dcT (kvs:List (List Key×D))
 |fzT (kvs:List (List Key×D))
 |insL (c:Str) (fss:List (List (Str×D)))
inductive W where
 |val (d:D)|vw (xs:List D)|vd (xs:List (Key×D))|exc (x:Str×List (Str×Int))|scr (ns:List Int)|pen|tmp (d:D)|own (o:O)
abbrev DSt:=List (Option W)
def znl:Option W->Option W
 |some (.tmp _)=>none
 |w=>w
def clr(σ:DSt):DSt:=σ.map znl
section
variable (K:PySem.W.Frag)
def RepL(H:Hp)(xs:List D)(v:V):Prop:=∃a vs,v=.ref a/\Rd H a (.lst vs)/\Reps K H xs vs
def RepT(H:Hp)(d:D)(v:V):Prop:=Rep K H d v\/∃xs,d=.list xs/\RepL K H xs v
def RepKV{κ:Type}(K:PySem.W.Frag)(H:Hp)(ks:List (κ×D))(vs:List (κ×V)):Prop:=ks.map (·.1)=vs.map (·.1)/\Reps K H (ks.map (·.2)) (vs.map (·.2))
def Nst(H:Hp):List (List D)->List Addr->Prop
 |[],[]=>True
 |xs::xss,b::bs=>(∃vs,H b=some (.lst vs)/\Reps K H xs vs)/\Nst H xss bs
 |_,_=>False
def InsA(H:Hp)(c:Str)(fs:List (Str×D))(p:Addr×Addr):Prop:=∃C fv,PySem.W.nsIn K mainGlobals c=some (some (.ref C))/\H p.1=some (.ins C p.2 fv)/\H p.2=some (.own p.1)/\fv.map (·.1)=fs.map (·.1)/\Reps K H (fs.map (·.2)) (fv.map (·.2))
def InsR(H:Hp)(c:Str):List (List (Str×D))->List (Addr×Addr)->Prop
 |[],[]=>True
 |fs::fss,p::ps=>InsA K H c fs p/\InsR H c fss ps
 |_,_=>False
def fpI:List (Addr×Addr)->List Addr
 |[]=>[]
 |p::ps=>p.1::p.2::fpI ps
def MxR(H:Hp):List Mx->List V->List Addr->Prop
 |[],[],[]=>True
 |.v d::ms,u::us,bs=>Rep K H d u/\MxR H ms us bs
 |.l xs::ms,u::us,b::bs=>u=.ref b/\(∃vs,H b=some (.lst vs)/\Reps K H xs vs)/\MxR H ms us bs
 |_,_,_=>False
def RepO(H:Hp):O->V->List Addr->Prop
 |.mix ms,v,fp=>∃a us bs,v=.ref a/\fp=a::bs/\H a=some (.lst us)/\MxR K H ms us bs
 |.lst xs,v,fp=>∃a vs,v=.ref a/\fp = [a]/\H a=some (.lst vs)/\Reps K H xs vs
 |.dct ks,v,fp=>∃a vs,v=.ref a/\fp = [a]/\H a=some (.dK vs)/\RepKV K H ks vs
 |.nst xss ds,v,fp=>∃a as us,v=.ref a/\fp=a::as/\H a=some (.lst (as.map V.ref++us))/\Nst K H xss as/\Reps K H ds us
 |.tk ks,v,fp=>∃a,v=.ref a/\fp = []/\H a=some (.tup (ks.map kV))
 |.dcT ks,v,fp=>∃a vs,v=.ref a/\fp = [a]/\H a=some (.dT vs)/\RepKV K H ks vs
 |.insL c fss,v,fp=>∃a ps,v=.ref a/\fp=a::fpI ps/\H a=some (.lst (ps.map λp=>V.ref p.1))/\InsR K H c fss ps
 |.fzT ks,v,fp=>∃a o vs,v=.ref a/\fp = []/\H a=some (.frz o (.dT vs))/\RepKV K H ks vs
 |.anc a o,v,fp=>v=.ref a/\RepO H o v fp
 |.ins c fs,v,fp=>∃a dx C fv,v=.ref a/\fp = [a,dx]/\PySem.W.nsIn K mainGlobals c=some (some (.ref C))/\H a=some (.ins C dx fv)/\H dx=some (.own a)/\fv.map (·.1)=fs.map (·.1)/\Reps K H (fs.map (·.2)) (fv.map (·.2))
def RepD(H:Hp)(xs:List (Key×D))(v:V):Prop:=∃a vs,v=.ref a/\H a=some (.dK vs)/\RepKV K H xs vs
def ji(C:Addr)(od:Option Addr)(a:Addr):HO:=.ext λh=>∃oe,h.get? a=some oe/\oe.cls=.ref C/\oe.dict=od/\∃vs,oe.data=.fields vs
def RepX(H:Hp)(x:Str×List (Str×Int))(v:V):Prop:=∃a C od,v=.ref a/\PySem.W.nsIn K mainGlobals x.1=some (some (.ref C))/\H a=some (ji C od a)/\((x.2 = []/\od=none)\/∃d,od=some d/\H d=some (.xd (x.2.map λp=>(p.1,V.int p.2))))
inductive Slots(H₀ H:Hp):DSt->St->List Addr->Prop
 |nil:Slots H₀ H [] [] []
 |none {v:Option V}{ws:DSt}{vs:St}{fp:List Addr} (t:Slots H₀ H ws vs fp):Slots H₀ H (Option.none::ws) (v::vs) fp
 |val {d:D}{v:V}{ws:DSt}{vs:St}{fp:List Addr} (r:Rep K H d v) (t:Slots H₀ H ws vs fp):Slots H₀ H (some (.val d)::ws) (some v::vs) fp
 |vw {xs:List D}{v:V}{ws:DSt}{vs:St}{fp:List Addr} (r:RepL K H₀ xs v) (t:Slots H₀ H ws vs fp):Slots H₀ H (some (.vw xs)::ws) (some v::vs) fp
 |vd {xs:List (Key×D)}{v:V}{ws:DSt}{vs:St}{fp:List Addr} (r:RepD K H₀ xs v) (t:Slots H₀ H ws vs fp):Slots H₀ H (some (.vd xs)::ws) (some v::vs) fp
 |exc {xs:Str×List (Str×Int)}{v:V}{ws:DSt}{vs:St}{fp:List Addr} (r:RepX K H₀ xs v) (t:Slots H₀ H ws vs fp):Slots H₀ H (some (.exc xs)::ws) (some v::vs) fp
 |scr {ns:List Int}{a:Addr}{ws:DSt}{vs:St}{fp:List Addr} (r:SqL K H₀ a (ns.map V.int)) (t:Slots H₀ H ws vs fp):Slots H₀ H (some (.scr ns)::ws) (some (.ref a)::vs) fp
 |pen {a:Addr}{ws:DSt}{vs:St}{fp:List Addr} (r:H a=some (jh a)) (t:Slots H₀ H ws vs fp):Slots H₀ H (some .pen::ws) (some (.ref a)::vs) fp
 |tmp {d:D}{v:V}{ws:DSt}{vs:St}{fp:List Addr} (r:RepN K H d v) (t:Slots H₀ H ws vs fp):Slots H₀ H (some (.tmp d)::ws) (some v::vs) fp
 |own {o:O}{v:V}{f:List Addr}{ws:DSt}{vs:St}{fp:List Addr} (r:RepO K H o v f) (t:Slots H₀ H ws vs fp):Slots H₀ H (some (.own o)::ws) (some v::vs) (f++fp)
structure DOk(H₀ H:Hp)(σD:DSt)(σ:St):Prop where
 same:Same H₀ H
 slots:∃fp,Slots K H₀ H σD σ fp/\fp.Nodup/\∀a∈fp,H₀ a=none
end
section
variable {K:PySem.W.Frag}{H₀ H H':Hp}{σD:DSt}{σ:St}
theorem RepX.same(s:Same H H'){xs:Str×List (Str×Int)}{v:V}:RepX K H xs v->RepX K H' xs v:=by
 rintro ⟨a,C,od,rfl,n,h,r⟩;refine⟨a,C,od,rfl,n,s _ _ h,?_⟩;rcases r with r |⟨d,e,r⟩
 ·exact .inl r
 ·exact .inr ⟨d,e,s _ _ r⟩
theorem RepD.same(s:Same H H'){xs:List (Key×D)}{v:V}:RepD K H xs v->RepD K H' xs v:=by
 rintro ⟨a,vs,rfl,h,r⟩;exact⟨a,vs,rfl,s _ _ h,r.1,r.2.same s⟩
theorem RepL.same(s:Same H H'){xs:List D}{v:V}:RepL K H xs v->RepL K H' xs v:=by
 rintro ⟨a,vs,rfl,h,r⟩;refine⟨a,vs,rfl,?_,r.same s⟩;rcases h with h |⟨o,h⟩
 ·exact .inl (s _ _ h)
 ·exact .inr ⟨o,s _ _ h⟩
theorem RepT.same(s:Same H H'){d:D}{v:V}:RepT K H d v->RepT K H' d v
 |.inl h=>.inl (h.same s)
 |.inr ⟨xs,e,h⟩=>.inr ⟨xs,e,h.same s⟩
theorem Rep.top{d:D}{v:V}(h:Rep K H d v):RepT K H d v:=.inl h
theorem RepT.list{xs:List D}{v:V}(h:RepT K H (.list xs) v):RepL K H xs v:=by
 rcases h with h |⟨ys,e,h⟩
 ·cases h with
  |lst h r=>exact⟨_,_,rfl,.inr ⟨_,h⟩,r⟩
 ·cases e;exact h
theorem RepL.sq{xs:List D}{v:V}(h:RepL K H xs v):∃a vs,v=.ref a/\SqL K H a vs/\Reps K H xs vs:=by
 obtain⟨a,vs,rfl,h,r⟩:=h;exact⟨a,vs,rfl,.inl h,r⟩
theorem Nst.len:∀{xss:List (List D)}{as:List Addr},Nst K H xss as->as.length=xss.length
 |[],[],_=>rfl
 |_::_,_::_,h=>by rw[List.length_cons,List.length_cons,Nst.len h.2]
theorem Nst.live:∀{xss:List (List D)}{as:List Addr},Nst K H xss as->∀b∈as,∃vs,H b=some (.lst vs)
 |[],[],_,b,hb=>by cases hb
 |_::_,_::_,h,b,hb=>by
  rcases List.mem_cons.mp hb with rfl|hb
  ·obtain⟨vs,e,_⟩:=h.1;exact⟨vs,e⟩
  ·exact Nst.live h.2 b hb
theorem Nst.keep(p:Pers H H'):∀{xss:List (List D)}{as:List Addr},(∀a∈as,∀u,H a=some u->H' a=some u)->Nst K H xss as->Nst K H' xss as
 |[],[],_,_=>trivial
 |_::_,b::_,k,h=>by
  obtain⟨⟨vs,e,r⟩,t⟩:=h;exact⟨⟨vs,k b List.mem_cons_self _ e,r.mono p⟩,Nst.keep p (λa ha=>k a (List.mem_cons_of_mem _ ha)) t⟩
theorem InsR.live{c:Str}:∀{fss:List (List (Str×D))}{ps:List (Addr×Addr)},InsR K H c fss ps->∀b∈fpI ps,∃u,H b=some u/\u.per=false
 |[],[],_,b,hb=>nomatch hb
 |[],_::_,h,_,_=>h.elim
 |_::_,[],h,_,_=>h.elim
 |fs::fss,p::ps,h,b,hb=>by
  obtain⟨⟨C,fv,_,e1,e2,_⟩,t⟩:=h;rcases List.mem_cons.mp hb with rfl|hb
  ·exact⟨_,e1,rfl⟩
  ·rcases List.mem_cons.mp hb with rfl|hb
   ·exact⟨_,e2,rfl⟩
   ·exact InsR.live t b hb
theorem InsR.keep{c:Str}(p:Pers H H'):∀{fss:List (List (Str×D))}{ps:List (Addr×Addr)},(∀a∈fpI ps,∀u,H a=some u->H' a=some u)->InsR K H c fss ps->InsR K H' c fss ps
 |[],[],_,_=>trivial
 |[],_::_,_,h=>h.elim
 |_::_,[],_,h=>h.elim
 |fs::fss,q::ps,k,h=>by
  obtain⟨⟨C,fv,n,e1,e2,e3,r⟩,t⟩:=h;exact⟨⟨C,fv,n,k _ List.mem_cons_self _ e1,k _ (List.mem_cons_of_mem _ List.mem_cons_self) _ e2,e3,r.mono p⟩,InsR.keep p (λa ha=>k a (List.mem_cons_of_mem _ (List.mem_cons_of_mem _ ha))) t⟩
theorem InsR.fp{c:Str}:∀{fss:List (List (Str×D))}{ps qs:List (Addr×Addr)},InsR K H c fss ps->InsR K H c fss qs->ps.map (λp=>V.ref p.1)=qs.map (λp=>V.ref p.1)->ps=qs
 |[],[],[],_,_,_=>rfl
 |[],_::_,_,h,_,_=>h.elim
 |[],[],_::_,_,h,_=>h.elim
 |_::_,[],_,h,_,_=>h.elim
 |_::_,_::_,[],_,h,_=>h.elim
 |fs::fss,p::ps,q::qs,h,g,e=>by
  obtain⟨⟨C,fv,_,e1,_⟩,t⟩:=h;obtain⟨⟨C2,fv2,_,e2,_⟩,t2⟩:=g;rw[List.map_cons,List.map_cons,List.cons.injEq]at e;have e0:p.1=q.1:=V.ref.inj e.1;rw[<-e0,e1]at e2;have e4:=Option.some.inj e2;have e5:p.2=q.2:=by injection e4
  have e3:p=q:=Prod.ext e0 e5;rw[e3,InsR.fp t t2 e.2]
theorem MxR.ind{P:List Mx->List V->List Addr->Prop}(n:P [] [] [])(hv:∀d ms u us bs,Rep K H d u->MxR K H ms us bs->P ms us bs->P (.v d::ms) (u::us) bs)
  (hl:∀xs ms u us b bs,u=.ref b->(∃vs,H b=some (.lst vs)/\Reps K H xs vs)->MxR K H ms us bs->P ms us bs->P (.l xs::ms) (u::us) (b::bs)) {ms:List Mx}{us:List V}{bs:List Addr} (h:MxR K H ms us bs):P ms us bs:=by
 induction ms generalizing us bs with
 |nil=>
  cases us with
  |nil=>
   cases bs with
   |nil=>exact n
   |cons b bs=>exact h.elim
  |cons u us=>exact h.elim
 |cons m ms ih=>
  cases m with
  |v d=>
   cases us with
   |nil=>exact h.elim
   |cons u us=>exact hv _ _ _ _ _ h.1 h.2 (ih h.2)
  |l xs=>
   cases us with
   |nil=>exact h.elim
   |cons u us=>
    cases bs with
    |nil=>exact h.elim
    |cons b bs=>exact hl _ _ _ _ _ _ h.1 h.2.1 h.2.2 (ih h.2.2)
theorem MxR.live{ms:List Mx}{us:List V}{bs:List Addr}(h:MxR K H ms us bs):∀b∈bs,∃vs,H b=some (.lst vs) :=
 h.ind (P:=λ_ _ bs=>∀b∈bs,∃vs,H b=some (.lst vs)) (λ_ hb=>nomatch hb) (λ_ _ _ _ _ _ _ j=>j) λxs ms u us c bs _ l _ j b hb=>by
  rcases List.mem_cons.mp hb with rfl|hb
  ·obtain⟨vs,e,_⟩:=l;exact⟨vs,e⟩
  ·exact j b hb
theorem MxR.keep(p:Pers H H'){ms:List Mx}{us:List V}{bs:List Addr}(k:∀a∈bs,∀u,H a=some u->H' a=some u)(h:MxR K H ms us bs):MxR K H' ms us bs :=
 h.ind (P:=λms us bs=>(∀a∈bs,∀u,H a=some u->H' a=some u)->MxR K H' ms us bs) (λ_=>trivial) (λ_ _ _ _ _ r _ j k=>⟨r.mono p,j k⟩) (λxs ms u us b bs e l _ j k=>by
  obtain⟨vs,e1,r⟩:=l;exact⟨e,⟨vs,k b List.mem_cons_self _ e1,r.mono p⟩,j λa ha=>k a (List.mem_cons_of_mem _ ha)⟩) k
theorem MxR.fp{H2:Hp}{ms:List Mx}{us:List V}{bs cs:List Addr}(h:MxR K H ms us bs):MxR K H2 ms us cs->bs=cs :=
 h.ind (P:=λms us bs=>∀cs,MxR K H2 ms us cs->bs=cs) (λcs g=>by
  cases cs with
  |nil=>rfl
  |cons=>exact g.elim) (λ_ _ _ _ _ _ _ j cs g=>j cs g.2) (λxs ms u us b bs e _ _ j cs g=>by
  cases cs with
  |nil=>exact g.elim
  |cons c cs=>
   have:=e.symm.trans g.1
   cases this;rw[j cs g.2.2]) cs
theorem MxR.len{ms:List Mx}{us:List V}{bs:List Addr}(h:MxR K H ms us bs):ms.length=us.length :=
 h.ind (P:=λms us _=>ms.length=us.length) rfl (λ_ _ _ _ _ _ _ j=>congrArg (·+1) j) λ_ _ _ _ _ _ _ _ _ j=>congrArg (·+1) j
theorem RepO.live{o:O}{v:V}{f:List Addr}(h:RepO K H o v f):∀a∈f,∃u,H a=some u/\u.per=false:=by
 induction o with
 |anc a o ih=>exact ih h.2
 |tk ks=>
  obtain⟨a,rfl,rfl,e⟩:=h;intro b hb
  cases hb
 |insL c fss=>
  obtain⟨a,ps,rfl,rfl,e,r⟩:=h;intro b hb;rcases List.mem_cons.mp hb with rfl|hb
  ·exact⟨_,e,rfl⟩
  ·exact r.live b hb
 |fzT ks=>
  obtain⟨a,o,vs,rfl,rfl,e,r⟩:=h;intro b hb
  cases hb
 |dcT ks=>
  obtain⟨a,vs,rfl,rfl,e,r⟩:=h;intro b hb;rw[List.mem_singleton.mp hb];exact⟨_,e,rfl⟩
 |mix ms=>
  obtain⟨a,us,bs,rfl,rfl,e,m⟩:=h;intro b hb;rcases List.mem_cons.mp hb with rfl|hb
  ·exact⟨_,e,rfl⟩
  ·obtain⟨vs,e2⟩:=m.live b hb;exact⟨_,e2,rfl⟩
 |ins c fs=>
  obtain⟨a,dx,C,fv,rfl,rfl,_,e1,e2,_⟩:=h;intro b hb;simp only[List.mem_cons,List.not_mem_nil,or_false]at hb;rcases hb with rfl|rfl
  ·exact⟨_,e1,rfl⟩
  ·exact⟨_,e2,rfl⟩
 |lst xs=>
  obtain⟨a,vs,rfl,rfl,e,r⟩:=h;intro b hb;rw[List.mem_singleton.mp hb];exact⟨_,e,rfl⟩
 |dct ks=>
  obtain⟨a,vs,rfl,rfl,e,r⟩:=h;intro b hb;rw[List.mem_singleton.mp hb];exact⟨_,e,rfl⟩
 |nst xss ds=>
  obtain⟨a,as,us,rfl,rfl,e,n,r⟩:=h;intro b hb;rcases List.mem_cons.mp hb with rfl|hb
  ·exact⟨_,e,rfl⟩
  ·obtain⟨vs,e2⟩:=n.live b hb;exact⟨_,e2,rfl⟩
theorem RepO.keep{o:O}{v:V}{f:List Addr}(p:Pers H H')(k:∀a∈f,∀u,H a=some u->H' a=some u)(h:RepO K H o v f):RepO K H' o v f:=by
 induction o with
 |anc a o ih=>exact⟨h.1,ih h.2⟩
 |tk ks=>
  obtain⟨a,rfl,rfl,e⟩:=h;exact⟨a,rfl,rfl,p _ _ e rfl⟩
 |insL c fss=>
  obtain⟨a,ps,rfl,rfl,e,r⟩:=h;exact⟨a,ps,rfl,rfl,k a List.mem_cons_self _ e,r.keep p λb hb=>k b (List.mem_cons_of_mem _ hb)⟩
 |fzT ks=>
  obtain⟨a,o,vs,rfl,rfl,e,r⟩:=h;exact⟨a,o,vs,rfl,rfl,p _ _ e rfl,r.1,r.2.mono p⟩
 |dcT ks=>
  obtain⟨a,vs,rfl,rfl,e,r⟩:=h;exact⟨a,vs,rfl,rfl,k a (by simp) _ e,r.1,r.2.mono p⟩
 |mix ms=>
  obtain⟨a,us,bs,rfl,rfl,e,m⟩:=h;exact⟨a,us,bs,rfl,rfl,k a List.mem_cons_self _ e,m.keep p λb hb=>k b (List.mem_cons_of_mem _ hb)⟩
 |ins c fs=>
  obtain⟨a,dx,C,fv,rfl,rfl,n,e1,e2,e3,r⟩:=h;exact⟨a,dx,C,fv,rfl,rfl,n,k a (by simp) _ e1,k dx (by simp) _ e2,e3,r.mono p⟩
 |lst xs=>
  obtain⟨a,vs,rfl,rfl,e,r⟩:=h;exact⟨a,vs,rfl,rfl,k a (by simp) _ e,r.mono p⟩
 |dct ks=>
  obtain⟨a,vs,rfl,rfl,e,r⟩:=h;exact⟨a,vs,rfl,rfl,k a (by simp) _ e,r.1,r.2.mono p⟩
 |nst xss ds=>
  obtain⟨a,as,us,rfl,rfl,e,n,r⟩:=h;exact⟨a,as,us,rfl,rfl,k a List.mem_cons_self _ e,n.keep p λb hb=>k b (List.mem_cons_of_mem _ hb),r.mono p⟩
theorem Slots.live{fp:List Addr}(h:Slots K H₀ H σD σ fp):∀a∈fp,∃u,H a=some u/\u.per=false:=by
 induction h with
 |nil=>intro a ha;cases ha
 |none _ ih=>exact ih
 |val _ _ ih=>exact ih
 |vw _ _ ih=>exact ih
 |vd _ _ ih=>exact ih
 |exc _ _ ih=>exact ih
 |scr _ _ ih=>exact ih
 |pen _ _ ih=>exact ih
 |tmp _ _ ih=>exact ih
 |own r _ ih=>
  intro a ha;rcases List.mem_append.mp ha with z|z
  ·exact r.live a z
  ·exact ih a z
theorem Slots.keep{fp:List Addr}(p:Pers H H')(kn:∀{d:D}{v:V},RepN K H d v->RepN K H' d v)(k:∀a∈fp,∀u,H a=some u->H' a=some u)(h:Slots K H₀ H σD σ fp):Slots K H₀ H' σD σ fp:=by
 induction h with
 |nil=>exact .nil
 |none _ ih=>exact .none (ih k)
 |val r _ ih=>exact .val (r.mono p) (ih k)
 |vw r _ ih=>exact .vw r (ih k)
 |vd r _ ih=>exact .vd r (ih k)
 |exc r _ ih=>exact .exc r (ih k)
 |scr r _ ih=>exact .scr r (ih k)
 |pen r _ ih=>exact .pen (p _ _ r rfl) (ih k)
 |tmp r _ ih=>exact .tmp (kn r) (ih k)
 |own r _ ih=>exact .own (r.keep p λa ha=>k a (List.mem_append_left _ ha)) (ih λa ha=>k a (List.mem_append_right _ ha))
theorem Slots.keepC{fp:List Addr}(p:Pers H H')(k:∀a∈fp,∀u,H a=some u->H' a=some u)(h:Slots K H₀ H σD σ fp):Slots K H₀ H' (clr σD) σ fp:=by
 induction h with
 |nil=>exact .nil
 |none _ ih=>exact .none (ih k)
 |val r _ ih=>exact .val (r.mono p) (ih k)
 |vw r _ ih=>exact .vw r (ih k)
 |vd r _ ih=>exact .vd r (ih k)
 |exc r _ ih=>exact .exc r (ih k)
 |scr r _ ih=>exact .scr r (ih k)
 |pen r _ ih=>exact .pen (p _ _ r rfl) (ih k)
 |tmp r _ ih=>exact .none (ih k)
 |own r _ ih=>exact .own (r.keep p λa ha=>k a (List.mem_append_left _ ha)) (ih λa ha=>k a (List.mem_append_right _ ha))
theorem Slots.length{fp:List Addr}(h:Slots K H₀ H σD σ fp):σD.length=σ.length:=by
 induction h with
 |nil=>rfl
 |none _ ih=>simp[ih]
 |val _ _ ih=>simp[ih]
 |vw _ _ ih=>simp[ih]
 |vd _ _ ih=>simp[ih]
 |exc _ _ ih=>simp[ih]
 |scr _ _ ih=>simp[ih]
 |pen _ _ ih=>simp[ih]
 |tmp _ _ ih=>simp[ih]
 |own _ _ ih=>simp[ih]
theorem DOk.after(s:Same H H')(h:DOk K H₀ H σD σ):DOk K H₀ H' σD σ:=by
 obtain⟨s0,fp,sl,nd,fr⟩:=h;exact⟨s0.trans s,fp,sl.keep s.pers (λh=>h.same s) λa _ u e=>s a u e,nd,fr⟩
theorem DOk.len(h:DOk K H₀ H σD σ):σD.length=σ.length:=let ⟨_,_,sl,_⟩:=h;sl.length
theorem Slots.get{fp:List Addr}(h:Slots K H₀ H σD σ fp):∀{i:Nat}{w:W},σD[i]?=some (some w)->∃v,σ[i]?=some (some v)/\match w with
  |.val d=>Rep K H d v
  |.vw xs=>RepL K H₀ xs v
  |.vd xs=>RepD K H₀ xs v
  |.exc xs=>RepX K H₀ xs v
  |.scr ns=>∃a,v=.ref a/\SqL K H₀ a (ns.map V.int)
  |.pen=>∃a,v=.ref a/\H a=some (jh a)
  |.tmp d=>RepN K H d v
  |.own o=>∃f,RepO K H o v f/\∀a∈f,a∈fp:=by
 induction h with
 |nil=>intro i w e;simp at e
 |none _ ih=>
  intro i w e
  cases i with
  |zero=>simp at e
  |succ i=>exact ih (by simpa using e)
 |val r _ ih=>
  intro i w e
  cases i with
  |zero=>simp at e;subst e;exact⟨_,rfl,r⟩
  |succ i=>exact ih (by simpa using e)
 |vw r _ ih=>
  intro i w e
  cases i with
  |zero=>simp at e;subst e;exact⟨_,rfl,r⟩
  |succ i=>exact ih (by simpa using e)
 |vd r _ ih=>
  intro i w e
  cases i with
  |zero=>simp at e;subst e;exact⟨_,rfl,r⟩
  |succ i=>exact ih (by simpa using e)
 |exc r _ ih=>
  intro i w e
  cases i with
  |zero=>simp at e;subst e;exact⟨_,rfl,r⟩
  |succ i=>exact ih (by simpa using e)
 |scr r _ ih=>
  intro i w e
  cases i with
  |zero=>simp at e;subst e;exact⟨_,rfl,_,rfl,r⟩
  |succ i=>exact ih (by simpa using e)
 |pen r _ ih=>
  intro i w e
  cases i with
  |zero=>simp at e;subst e;exact⟨_,rfl,_,rfl,r⟩
  |succ i=>exact ih (by simpa using e)
 |tmp r _ ih=>
  intro i w e
  cases i with
  |zero=>simp at e;subst e;exact⟨_,rfl,r⟩
  |succ i=>exact ih (by simpa using e)
 |own r _ ih=>
  intro i w e
  cases i with
  |zero=>simp at e;subst e;exact⟨_,rfl,_,r,λa ha=>List.mem_append_left _ ha⟩
  |succ i=>
   obtain⟨v,e1,e2⟩:=ih (by simpa using e);refine⟨v,e1,?_⟩
   cases w with
   |val d=>exact e2
   |vw xs=>exact e2
   |vd xs=>exact e2
   |exc xs=>exact e2
   |scr ns=>exact e2
   |pen=>exact e2
   |tmp d=>exact e2
   |own o=>obtain⟨f,r,m⟩:=e2;exact⟨f,r,λa ha=>List.mem_append_right _ (m a ha)⟩
theorem DOk.val(h:DOk K H₀ H σD σ){i:Nat}{d:D}(e:σD[i]?=some (some (.val d))):∃v,σ[i]?=some (some v)/\Rep K H d v:=let ⟨_,_,sl,_⟩:=h;sl.get e
theorem DOk.vw(h:DOk K H₀ H σD σ){i:Nat}{xs:List D}(e:σD[i]?=some (some (.vw xs))):∃v,σ[i]?=some (some v)/\RepL K H xs v:=by
 obtain⟨s,_,sl,_⟩:=h;obtain⟨v,e1,e2⟩:=sl.get e;exact⟨v,e1,RepL.same s e2⟩
theorem DOk.vd(h:DOk K H₀ H σD σ){i:Nat}{xs:List (Key×D)}(e:σD[i]?=some (some (.vd xs))):∃v,σ[i]?=some (some v)/\RepD K H xs v:=by
 obtain⟨s,_,sl,_⟩:=h;obtain⟨v,e1,e2⟩:=sl.get e;exact⟨v,e1,RepD.same s e2⟩
theorem DOk.exc(h:DOk K H₀ H σD σ){i:Nat}{xs:Str×List (Str×Int)}(e:σD[i]?=some (some (.exc xs))):∃v,σ[i]?=some (some v)/\RepX K H xs v:=by
 obtain⟨s,_,sl,_⟩:=h;obtain⟨v,e1,e2⟩:=sl.get e;exact⟨v,e1,RepX.same s e2⟩
theorem DOk.scr(h:DOk K H₀ H σD σ){i:Nat}{ns:List Int}(e:σD[i]?=some (some (.scr ns))):∃a,σ[i]?=some (some (.ref a))/\SqL K H a (ns.map V.int):=by
 obtain⟨s,_,sl,_⟩:=h;obtain⟨v,e1,a,rfl,e2⟩:=sl.get e;exact⟨a,e1,s.seq e2⟩
theorem DOk.pen(h:DOk K H₀ H σD σ){i:Nat}(e:σD[i]?=some (some .pen)):∃a,σ[i]?=some (some (.ref a))/\H a=some (jh a):=by
 obtain⟨s,_,sl,_⟩:=h;obtain⟨v,e1,a,rfl,e2⟩:=sl.get e;exact⟨a,e1,e2⟩
theorem DOk.tmp(h:DOk K H₀ H σD σ){i:Nat}{d:D}(e:σD[i]?=some (some (.tmp d))):∃v,σ[i]?=some (some v)/\RepN K H d v:=let ⟨_,_,sl,_⟩:=h;sl.get e
theorem DOk.ownL(h:DOk K H₀ H σD σ){i:Nat}{xs:List D}(e:σD[i]?=some (some (.own (.lst xs)))):∃a vs,σ[i]?=some (some (.ref a))/\H a=some (.lst vs)/\Reps K H xs vs/\H₀ a=none:=by
 obtain⟨s,fp,sl,nd,fr⟩:=h;obtain⟨v,e1,f,⟨a,vs,rfl,rfl,e2,r⟩,m⟩:=sl.get e;exact⟨a,vs,e1,e2,r,fr a (m a (by simp))⟩
theorem DOk.ownD(h:DOk K H₀ H σD σ){i:Nat}{xs:List (Key×D)}(e:σD[i]?=some (some (.own (.dct xs)))):∃a vs,σ[i]?=some (some (.ref a))/\H a=some (.dK vs)/\RepKV K H xs vs/\H₀ a=none:=by
 obtain⟨s,fp,sl,nd,fr⟩:=h;obtain⟨v,e1,f,⟨a,vs,rfl,rfl,e2,r⟩,m⟩:=sl.get e;exact⟨a,vs,e1,e2,r,fr a (m a (by simp))⟩
theorem Slots.set{fp f:List Addr}(h:Slots K H₀ H σD σ fp){w:Option W}{v:Option V}(hw:∀{ws:DSt}{vs:St}{g:List Addr},Slots K H₀ H ws vs g->Slots K H₀ H (w::ws) (v::vs) (f++g)):
  ∀(i:Nat),i<σD.length->∃g g',Slots K H₀ H (σD.set i w) (σ.set i v) (g++(f++g'))/\(g++g').Sublist fp:=by
 induction h with
 |nil=>intro i hi;exact absurd hi (Nat.not_lt_zero _)
 |none t ih=>
  intro i hi
  cases i with
  |zero=>exact⟨[],_,hw t,List.Sublist.refl _⟩
  |succ i=>obtain⟨g,g',e,s⟩:=ih i (Nat.lt_of_succ_lt_succ hi);exact⟨g,g',.none e,s⟩
 |val r t ih=>
  intro i hi
  cases i with
  |zero=>exact⟨[],_,hw t,List.Sublist.refl _⟩
  |succ i=>obtain⟨g,g',e,s⟩:=ih i (Nat.lt_of_succ_lt_succ hi);exact⟨g,g',.val r e,s⟩
 |vw r t ih=>
  intro i hi
  cases i with
  |zero=>exact⟨[],_,hw t,List.Sublist.refl _⟩
  |succ i=>obtain⟨g,g',e,s⟩:=ih i (Nat.lt_of_succ_lt_succ hi);exact⟨g,g',.vw r e,s⟩
 |vd r t ih=>
  intro i hi
  cases i with
  |zero=>exact⟨[],_,hw t,List.Sublist.refl _⟩
  |succ i=>obtain⟨g,g',e,s⟩:=ih i (Nat.lt_of_succ_lt_succ hi);exact⟨g,g',.vd r e,s⟩
 |exc r t ih=>
  intro i hi
  cases i with
  |zero=>exact⟨[],_,hw t,List.Sublist.refl _⟩
  |succ i=>obtain⟨g,g',e,s⟩:=ih i (Nat.lt_of_succ_lt_succ hi);exact⟨g,g',.exc r e,s⟩
 |scr r t ih=>
  intro i hi
  cases i with
  |zero=>exact⟨[],_,hw t,List.Sublist.refl _⟩
  |succ i=>obtain⟨g,g',e,s⟩:=ih i (Nat.lt_of_succ_lt_succ hi);exact⟨g,g',.scr r e,s⟩
 |pen r t ih=>
  intro i hi
  cases i with
  |zero=>exact⟨[],_,hw t,List.Sublist.refl _⟩
  |succ i=>obtain⟨g,g',e,s⟩:=ih i (Nat.lt_of_succ_lt_succ hi);exact⟨g,g',.pen r e,s⟩
 |tmp r t ih=>
  intro i hi
  cases i with
  |zero=>exact⟨[],_,hw t,List.Sublist.refl _⟩
  |succ i=>obtain⟨g,g',e,s⟩:=ih i (Nat.lt_of_succ_lt_succ hi);exact⟨g,g',.tmp r e,s⟩
 |@own o v' f' ws vs fp' r t ih=>
  intro i hi
  cases i with
  |zero=>exact⟨[],_,hw t,List.sublist_append_right _ _⟩
  |succ i=>
   obtain⟨g,g',e,s⟩:=ih i (Nat.lt_of_succ_lt_succ hi);refine⟨f'++g,g',?_,?_⟩
   ·rw[List.append_assoc];exact .own r e
   ·rw[List.append_assoc];exact(List.Sublist.refl _).append s
theorem DOk.put(h:DOk K H₀ H σD σ){w:Option W}{v:Option V}(hw:∀{ws:DSt}{vs:St}{g:List Addr},Slots K H₀ H ws vs g->Slots K H₀ H (w::ws) (v::vs) g)(i:Nat):DOk K H₀ H (σD.set i w) (σ.set i v):=by
 obtain⟨s,fp,sl,nd,fr⟩:=h
 by_cases hi:i<σD.length
 ·obtain⟨g,g',e,sb⟩:=sl.set (f:=[]) hw i hi;rw[List.nil_append]at e;exact⟨s,_,e,sb.nodup nd,λa ha=>fr a (sb.subset ha)⟩
 ·rw[List.set_eq_of_length_le (by omega),List.set_eq_of_length_le (by rw[<-sl.length];omega)];exact⟨s,fp,sl,nd,fr⟩
theorem DOk.setV(h:DOk K H₀ H σD σ){d:D}{v:V}(r:Rep K H d v)(i:Nat):DOk K H₀ H (σD.set i (some (.val d))) (σ.set i (some v)):=h.put (.val r) i
theorem DOk.setN(h:DOk K H₀ H σD σ)(v:Option V)(i:Nat):DOk K H₀ H (σD.set i none) (σ.set i v):=h.put (.none) i
theorem DOk.setO{H1:Hp}(h:DOk K H₀ H1 σD σ)(s1:Same H1 H){a:Addr}{vs:List V}{xs:List D}(n:H1 a=none)(e:H a=some (.lst vs))(r:Reps K H xs vs)(i:Nat):DOk K H₀ H (σD.set i (some (.own (.lst xs)))) (σ.set i (some (.ref a))):=by
 obtain⟨s,fp,sl,nd,fr⟩:=id h;have lv:∀b∈fp,b≠a:=λb hb z=>by
  obtain⟨u,e1,_⟩:=sl.live b hb;rw[z,n]at e1;cases e1
 obtain⟨s',fp',sl',_⟩:=id (h.after s1);have sl2:Slots K H₀ H σD σ fp:=sl.keep s1.pers (λh=>h.same s1) λb _ u e=>s1 b u e
 by_cases hi:i<σD.length
 ·obtain⟨g,g',e',sb⟩:=sl2.set (f:=[a]) (w:=some (.own (.lst xs))) (v:=some (.ref a)) (λt=>.own ⟨a,vs,rfl,rfl,e,r⟩ t) i hi;refine⟨s',_,e',?_,λb hb=>?_⟩
  ·have nd2:=sb.nodup nd;rw[List.nodup_append]at nd2 ⊢;refine⟨nd2.1,?_,λx hx y hy=>?_⟩
   ·rw[List.singleton_append,List.nodup_cons];exact⟨λz=>lv a (sb.subset (List.mem_append_right _ z)) rfl,nd2.2.1⟩
   ·rcases List.mem_append.mp hy with z|z
    ·rw[List.mem_singleton.mp z];exact lv x (sb.subset (List.mem_append_left _ hx))
    ·exact nd2.2.2 x hx y z
  ·rcases List.mem_append.mp hb with z|z
   ·exact fr b (sb.subset (List.mem_append_left _ z))
   ·rcases List.mem_append.mp z with z|z
    ·rw[List.mem_singleton.mp z]
     cases q:H₀ a with
     |none=>rfl
     |some u=>rw[s a u q]at n;cases n
    ·exact fr b (sb.subset (List.mem_append_right _ z))
 ·rw[List.set_eq_of_length_le (by omega),List.set_eq_of_length_le (by rw[<-sl2.length];omega)];exact⟨s',fp,sl2,nd,fr⟩
theorem Slots.write{fp:List Addr}(h:Slots K H₀ H σD σ fp)(nd:fp.Nodup){i:Nat}{xs ys:List D}{a:Addr}{vs:List V}(e:σD[i]?=some (some (.own (.lst xs))))(ev:σ[i]?=some (some (.ref a)))(ea:∃zs,H a=some (.lst zs))(r:Reps K H ys vs):
  Slots K H₀ (upd H a (.lst vs)) (clr (σD.set i (some (.own (.lst ys))))) σ fp:=by
 have ps:Pers H (upd H a (.lst vs)):=λb o hb hp=>by
  obtain⟨zs,ea⟩:=ea;rw[zd (λz=>by rw[z,ea]at hb;cases hb;cases hp)];exact hb
 induction h generalizing i with
 |nil=>simp at e
 |none t ih=>
  cases i with
  |zero=>simp at e
  |succ i=>exact .none (ih nd (by simpa using e) (by simpa using ev))
 |val q t ih=>
  cases i with
  |zero=>simp at e
  |succ i=>exact .val (q.mono ps) (ih nd (by simpa using e) (by simpa using ev))
 |vw q t ih=>
  cases i with
  |zero=>simp at e
  |succ i=>exact .vw q (ih nd (by simpa using e) (by simpa using ev))
 |vd q t ih=>
  cases i with
  |zero=>simp at e
  |succ i=>exact .vd q (ih nd (by simpa using e) (by simpa using ev))
 |exc q t ih=>
  cases i with
  |zero=>simp at e
  |succ i=>exact .exc q (ih nd (by simpa using e) (by simpa using ev))
 |scr q t ih=>
  cases i with
  |zero=>simp at e
  |succ i=>exact .scr q (ih nd (by simpa using e) (by simpa using ev))
 |pen q t ih=>
  cases i with
  |zero=>simp at e
  |succ i=>exact .pen (ps _ _ q rfl) (ih nd (by simpa using e) (by simpa using ev))
 |tmp q t ih=>
  cases i with
  |zero=>simp at e
  |succ i=>exact .none (ih nd (by simpa using e) (by simpa using ev))
 |@own o v f ws wvs fp' q t ih=>
  rw[List.nodup_append]at nd
  cases i with
  |zero=>
   simp at e ev;subst e ev;obtain⟨b,zs,eb,rfl,hb,rb⟩:=q
   cases eb;refine .own ⟨a,vs,rfl,rfl,ze,r.mono ps⟩ (t.keepC ps λc hc u hu=>?_);rw[zd (λz=>nd.2.2 a (by simp) c hc z.symm)];exact hu
  |succ i=>
   have e':ws[i]?=some (some (.own (.lst xs))):=by simpa using e
   have ev':wvs[i]?=some (some (.ref a)):=by simpa using ev
   refine .own (q.keep ps λc hc u hu=>?_) (ih nd.2.1 e' ev');obtain⟨v',e1,f',⟨b,zs,rfl,rfl,hb,rb⟩,m⟩:=t.get e';rw[ev']at e1
   cases e1;rw[zd (λz=>nd.2.2 c hc a (m a (by simp)) z)];exact hu
theorem xc{a:Addr}{o o':HO}(e:H a=some o)(p:o.per=false):Pers H (upd H a o'):=λb u hb hp=>by
 rw[zd (λz=>by rw[z,e]at hb;cases hb;rw[p]at hp;cases hp)];exact hb
theorem DOk.write(h:DOk K H₀ H σD σ){i:Nat}{xs ys:List D}{a:Addr}{vs zs:List V}(e:σD[i]?=some (some (.own (.lst xs))))(ev:σ[i]?=some (some (.ref a)))(ea:H a=some (.lst zs))(r:Reps K H ys vs):DOk K H₀ (upd H a (.lst vs)) (clr (σD.set i (some (.own (.lst ys))))) σ:=by
 obtain⟨a',_,e1,_,_,n⟩:=h.ownL e;rw[ev]at e1
 cases e1;obtain⟨s,fp,sl,nd,fr⟩:=h;refine⟨λb o hb=>?_,fp,sl.write nd e ev ⟨_,ea⟩ r,nd,fr⟩;rw[zd (λz=>by rw[z,n]at hb;cases hb)];exact s b o hb
end
section
variable {X:Cx}{pins:List (Addr×Obj)}{σ:St}{H:Hp}{s:Shared}{a:Addr}
theorem Inv.frz(I:Inv X pins σ H s){vs:List V}(h:H a=some (.lst vs)):∃o,Inv X pins σ (upd H a (.frz o (.lst vs))) s:=by
 obtain⟨z,its,n,r,e⟩:=I.hok a _ h;exact⟨_,I.write (h':=s.heap) (t':=s.toks) (x:=a) (e:=a) (by rw[h];exact trivial) (.inl rfl) (λb u _ q=>q) ⟨_,e⟩ ⟨e,z,its,n,r,e⟩⟩
theorem Inv.frzK(I:Inv X pins σ H s){vs:List (Key×V)}(h:H a=some (.dK vs)):∃o,Inv X pins σ (upd H a (.frz o (.dK vs))) s:=by
 obtain⟨z,y,its,r,o,es,ep,e,c⟩:=I.hok a _ h;exact⟨o,I.write (h':=s.heap) (t':=s.toks) (x:=a) (e:=a) (by rw[h];exact trivial) (.inl rfl) (λb u _ q=>q) ⟨_,e⟩ ⟨e,z,y,its,r,o,es,ep,e,c⟩⟩
theorem zf4{P:Program}{w:World}{h:Heap}{x y z:Int}{tx ty tz:Tok}{n:Nat}(e:h.get? a=some { cls:=.type "list",data:=.seq #[.int x tx,.int y ty,.int z tz] n }):ObjOk P w H h a (jh a) :=
 ⟨⟨x,y,z,tx,ty,tz,n,e⟩,⟨_,e⟩,λh1 h2 ⟨x,y,z,tx,ty,tz,n,e⟩ k=>⟨x,y,z,tx,ty,tz,n,k _ e⟩⟩
theorem Inv.toPen(I:Inv X pins σ H s){x y z:Int}(h:H a=some (.lst [.int x,.int y,.int z])):Inv X pins σ (upd H a (jh a)) s:=by
 obtain⟨zz,its,n,r,e⟩:=I.hok a _ h
 cases r with
 |cons r1 r=>
  cases r with
  |cons r2 r=>
   cases r with
   |cons r3 r=>
    cases r;obtain⟨t1,rfl⟩:=r1;obtain⟨t2,rfl⟩:=r2;obtain⟨t3,rfl⟩:=r3;exact I.write (h':=s.heap) (t':=s.toks) (x:=a) (e:=a) (by rw[h];exact trivial) (.inl rfl) (λb u _ q=>q) ⟨_,e⟩ (zf4 e)
end
abbrev DTE:=DSt->(D->Prop)->Prop
abbrev DTF:=DSt->(List D->Prop)->Prop
abbrev DTT:=DSt->(Bool->Prop)->Prop
abbrev DTP:=DSt->(List W->Prop)->Prop
def DEnd(X:Cx)(pins:List (Addr×Obj))(σ:St)(H:Hp)(Q:D->Prop)(u:Value)(s':Shared):Prop:=∃v H' d,Inv X pins σ H' s'/\RelV v u/\Same H H'/\Rep X.K H' d v/\Q d
def zmh(X:Cx)(pins:List (Addr×Obj))(σ:St)(H:Hp)(Q:D->Prop)(u:Value)(s':Shared):Prop:=∃v H' d,Inv X pins σ H' s'/\RelV v u/\Same H H'/\RepT X.K H' d v/\Q d
def zf5(X:Cx)(pins:List (Addr×Obj))(σ:St)(H:Hp)(Q:List D->Prop)(u:Value)(s':Shared):Prop:=∃a H' vs xs,u=.ref a/\Inv X pins σ H' s'/\Same H H'/\H a=none/\H' a=some (.lst vs)/\Reps X.K H' xs vs/\Q xs
structure DE(X:Cx)(e:Expr)(t:DTE):Prop where
 run:∀(pins:List (Addr×Obj)) (s:Shared) (σ:St) (H H₀:Hp) (σD:DSt) (Q:D->Prop),Inv X pins σ H s->DOk X.K H₀ H σD σ->t σD Q->wpAny (model X.prog X.w) X.A (eval e X.env) (DEnd X pins σ H Q) X.xe s
structure DV(X:Cx)(e:Expr)(t:DTE):Prop where
 run:∀(pins:List (Addr×Obj)) (s:Shared) (σ:St) (H H₀:Hp) (σD:DSt) (Q:D->Prop),Inv X pins σ H s->DOk X.K H₀ H σD σ->t σD Q->wpAny (model X.prog X.w) X.A (eval e X.env) (zmh X pins σ H Q) X.xe s
structure DF(X:Cx)(e:Expr)(t:DTF):Prop where
 run:∀(pins:List (Addr×Obj)) (s:Shared) (σ:St) (H H₀:Hp) (σD:DSt) (Q:List D->Prop),Inv X pins σ H s->DOk X.K H₀ H σD σ->t σD Q->wpAny (model X.prog X.w) X.A (eval e X.env) (zf5 X pins σ H Q) X.xe s
def zmi(X:Cx)(pins:List (Addr×Obj))(σ:St)(H:Hp)(Q:Bool->Prop)(b:Bool)(s':Shared):Prop:=∃H',Inv X pins σ H' s'/\Same H H'/\Q b
structure DT(X:Cx)(e:Expr)(t:DTT):Prop where
 run:∀(pins:List (Addr×Obj)) (s:Shared) (σ:St) (H H₀:Hp) (σD:DSt) (Q:Bool->Prop),Inv X pins σ H s->DOk X.K H₀ H σD σ->t σD Q->wpAny (model X.prog X.w) X.A (isTrue e X.env (eval e X.env)) (zmi X pins σ H Q) X.xe s
structure DWt(X:Cx)(e:Expr)(t:DTT):Prop where
 run:∀(whole:Sem Value) (pins:List (Addr×Obj)) (s:Shared) (σ:St) (H H₀:Hp) (σD:DSt) (Q:Bool->Prop),Inv X pins σ H s->DOk X.K H₀ H σD σ->t σD Q->wpAny (model X.prog X.w) X.A (isTrue e X.env whole) (zmi X pins σ H Q) X.xe s
structure DA(X:Cx)(es:List Expr)(t:DTF):Prop where
 run:∀(pos:Pos) (pins:List (Addr×Obj)) (s:Shared) (σ:St) (H H₀:Hp) (σD:DSt) (Q:List D->Prop),Inv X pins σ H s->DOk X.K H₀ H σD σ->t σD Q ->
  wpAny (model X.prog X.w) X.A (spliced (backTo pos (starEach es X.env))) (λus s'=>∃vs H' ds,Inv X pins σ H' s'/\Vals vs us/\Same H H'/\Reps X.K H' ds vs/\Q ds) X.xe s
inductive RepTs(K:PySem.W.Frag)(H:Hp):List D->List V->Prop
 |nil:RepTs K H [] []
 |cons {d:D}{v:V}{ds:List D}{vs:List V} (r:RepT K H d v) (t:RepTs K H ds vs):RepTs K H (d::ds) (v::vs)
structure DAv(X:Cx)(es:List Expr)(t:DTF):Prop where
 run:∀(pos:Pos) (pins:List (Addr×Obj)) (s:Shared) (σ:St) (H H₀:Hp) (σD:DSt) (Q:List D->Prop),Inv X pins σ H s->DOk X.K H₀ H σD σ->t σD Q ->
  wpAny (model X.prog X.w) X.A (spliced (backTo pos (starEach es X.env))) (λus s'=>∃vs H' ds,Inv X pins σ H' s'/\Vals vs us/\Same H H'/\RepTs X.K H' ds vs/\Q ds) X.xe s
section
variable (K:PySem.W.Frag)
def zru(H:Hp):W->V->Prop
 |.val d,v=>Rep K H d v
 |.vw xs,v=>RepL K H xs v
 |.vd xs,v=>RepD K H xs v
 |.exc xs,v=>RepX K H xs v
 |.scr ns,v=>∃a,v=.ref a/\SqL K H a (ns.map V.int)
 |.pen,v=>∃a,v=.ref a/\H a=some (jh a)
 |.tmp _,_=>False
 |.own _,_=>False
inductive RepWs(H:Hp):List W->List V->Prop
 |nil:RepWs H [] []
 |cons {w:W}{v:V}{ws:List W}{vs:List V} (r:zru K H w v) (t:RepWs H ws vs):RepWs H (w::ws) (v::vs)
end
theorem RepWs.length{K:PySem.W.Frag}{H:Hp}{ws:List W}{vs:List V}(h:RepWs K H ws vs):ws.length=vs.length:=by
 induction h with
 |nil=>rfl
 |cons _ _ ih=>simp[ih]
structure DPs(X:Cx)(es:List Expr)(t:DTP):Prop where
 run:∀(pos:Pos) (pins:List (Addr×Obj)) (s:Shared) (σ:St) (H H₀:Hp) (σD:DSt) (Q:List W->Prop),Inv X pins σ H s->DOk X.K H₀ H σD σ->t σD Q ->
  wpAny (model X.prog X.w) X.A (spliced (backTo pos (starEach es X.env))) (λus s'=>∃vs H' ws,Inv X pins σ H' s'/\Vals vs us/\Same H H'/\RepWs X.K H' ws vs/\Q ws) X.xe s
section
variable (K:PySem.W.Frag)
def cnE(t:DTE):TE:=λσ H Q=>∃H₀ σD QD,DOk K H₀ H σD σ/\t σD QD/\∀v H' d,Same H H'->Rep K H' d v->QD d->Q v H'
def cnV(t:DTE):TE:=λσ H Q=>∃H₀ σD QD,DOk K H₀ H σD σ/\t σD QD/\∀v H' d,Same H H'->RepT K H' d v->QD d->Q v H'
def cnF(t:DTF):TE:=λσ H Q=>∃H₀ σD QD,DOk K H₀ H σD σ/\t σD QD/\∀a H' vs xs,Same H H'->H a=none->H' a=some (.lst vs)->Reps K H' xs vs->QD xs->Q (.ref a) H'
def cnT(t:DTT):TT:=λσ H Q=>∃H₀ σD QD,DOk K H₀ H σD σ/\t σD QD/\∀b H',Same H H'->QD b->Q b H'
def cnA(t:DTF):TA:=λσ H Q=>∃H₀ σD QD,DOk K H₀ H σD σ/\t σD QD/\∀vs H' ds,Same H H'->Reps K H' ds vs->QD ds->Q vs H'
def zrv(t:DTF):TA:=λσ H Q=>∃H₀ σD QD,DOk K H₀ H σD σ/\t σD QD/\∀vs H' ds,Same H H'->RepTs K H' ds vs->QD ds->Q vs H'
def cnP(t:DTP):TA:=λσ H Q=>∃H₀ σD QD,DOk K H₀ H σD σ/\t σD QD/\∀vs H' ws,Same H H'->RepWs K H' ws vs->QD ws->Q vs H'
end
section
variable {X:Cx}{e:Expr}{es:List Expr}
theorem DE.pe{t:DTE}(h:DE X e t):PE X e (cnE X.K t):=λpins s σ H Q I zq63=>by obtain⟨H₀,σD,QD,ok,q,k⟩:=zq63;exact thn (h.run pins s σ H H₀ σD QD I ok q) λu s' zq50=>by obtain⟨v,H',d,I',r,sm,rp,qd⟩:=zq50;exact⟨v,H',I',r,k v H' d sm rp qd⟩
theorem DV.pe{t:DTE}(h:DV X e t):PE X e (cnV X.K t):=λpins s σ H Q I zq63=>by obtain⟨H₀,σD,QD,ok,q,k⟩:=zq63;exact thn (h.run pins s σ H H₀ σD QD I ok q) λu s' zq50=>by obtain⟨v,H',d,I',r,sm,rp,qd⟩:=zq50;exact⟨v,H',I',r,k v H' d sm rp qd⟩
theorem DF.pe{t:DTF}(h:DF X e t):PE X e (cnF X.K t):=λpins s σ H Q I zq63=>by obtain⟨H₀,σD,QD,ok,q,k⟩:=zq63;exact thn (h.run pins s σ H H₀ σD QD I ok q) λu s' zq50=>by obtain⟨a,H',vs,xs,eu,I',sm,n,e,rp,qd⟩:=zq50;exact⟨.ref a,H',I',eu,k a H' vs xs sm n e rp qd⟩
theorem DT.pt{t:DTT}(h:DT X e t):PT X e (cnT X.K t):=λpins s σ H Q I zq63=>by obtain⟨H₀,σD,QD,ok,q,k⟩:=zq63;exact thn (h.run pins s σ H H₀ σD QD I ok q) λu s' zq50=>by obtain⟨H',I',sm,qd⟩:=zq50;exact⟨H',I',k u H' sm qd⟩
theorem DA.pa{t:DTF}(h:DA X es t):PA X es (cnA X.K t):=λpos pins s σ H Q I zq65=>by obtain⟨H₀,σD,QD,ok,q,k⟩:=zq65;exact thn (h.run pos pins s σ H H₀ σD QD I ok q) λus s' zq60=>by obtain⟨vs,H',ds,I',r,sm,rp,qd⟩:=zq60;exact⟨vs,H',I',r,k vs H' ds sm rp qd⟩
theorem DAv.pa{t:DTF}(h:DAv X es t):PA X es (zrv X.K t):=λpos pins s σ H Q I zq68=>by obtain⟨H₀,σD,QD,ok,q,k⟩:=zq68;exact thn (h.run pos pins s σ H H₀ σD QD I ok q) λus s' zq63=>by obtain⟨vs,H',ds,I',r,sm,rp,qd⟩:=zq63;exact⟨vs,H',I',r,k vs H' ds sm rp qd⟩
theorem DPs.pa{t:DTP}(h:DPs X es t):PA X es (cnP X.K t):=λpos pins s σ H Q I zq67=>by obtain⟨H₀,σD,QD,ok,q,k⟩:=zq67;exact thn (h.run pos pins s σ H H₀ σD QD I ok q) λus s' zq62=>by obtain⟨vs,H',ws,I',r,sm,rp,qd⟩:=zq62;exact⟨vs,H',I',r,k vs H' ws sm rp qd⟩
theorem DE.of{t:DTE}{t':TE}(h:PE X e t')(k:∀σ H H₀ σD QD,DOk X.K H₀ H σD σ->t σD QD->t' σ H (λv H'=>∃d,Same H H'/\Rep X.K H' d v/\QD d)):DE X e t :=
 ⟨λpins s σ H H₀ σD Q I ok q=>thn (h pins s σ H _ I (k σ H H₀ σD Q ok q)) λu s' zq80=>by obtain⟨v,H',I',r,d,sm,rp,qd⟩:=zq80;exact⟨v,H',d,I',r,sm,rp,qd⟩⟩
theorem DV.of{t:DTE}{t':TE}(h:PE X e t')(k:∀σ H H₀ σD QD,DOk X.K H₀ H σD σ->t σD QD->t' σ H (λv H'=>∃d,Same H H'/\RepT X.K H' d v/\QD d)):DV X e t :=
 ⟨λpins s σ H H₀ σD Q I ok q=>thn (h pins s σ H _ I (k σ H H₀ σD Q ok q)) λu s' zq80=>by obtain⟨v,H',I',r,d,sm,rp,qd⟩:=zq80;exact⟨v,H',d,I',r,sm,rp,qd⟩⟩
theorem DF.of{t:DTF}{t':TE}(h:PE X e t')(k:∀σ H H₀ σD QD,DOk X.K H₀ H σD σ->t σD QD->t' σ H (λv H'=>∃a vs xs,v=.ref a/\Same H H'/\H a=none/\H' a=some (.lst vs)/\Reps X.K H' xs vs/\QD xs)):DF X e t :=
 ⟨λpins s σ H H₀ σD Q I ok q=>thn (h pins s σ H _ I (k σ H H₀ σD Q ok q)) λu s' zq80=>by obtain⟨v,H',I',r,a,vs,xs,ev,sm,n,e,rp,qd⟩:=zq80;exact⟨a,H',vs,xs,by subst ev;exact r,I',sm,n,e,rp,qd⟩⟩
theorem DT.of{t:DTT}{t':TT}(h:PT X e t')(k:∀σ H H₀ σD QD,DOk X.K H₀ H σD σ->t σD QD->t' σ H (λb H'=>Same H H'/\QD b)):DT X e t :=
 ⟨λpins s σ H H₀ σD Q I ok q=>thn (h pins s σ H _ I (k σ H H₀ σD Q ok q)) λu s' zq80=>by obtain⟨H',I',sm,qd⟩:=zq80;exact⟨H',I',sm,qd⟩⟩
theorem DE.dv{t:DTE}(h:DE X e t):DV X e t:=⟨λpins s σ H H₀ σD Q I ok q=>thn (h.run pins s σ H H₀ σD Q I ok q) λu s' zq28=>by obtain⟨v,H',d,I',r,sm,rp,qd⟩:=zq28;exact⟨v,H',d,I',r,sm,rp.top,qd⟩⟩
theorem zeu{pins:List (Addr×Obj)}{σ:St}{H H':Hp}{s:Shared}{a:Addr}{vs:List V}{xs:List D}(I:Inv X pins σ H' s)(sm:Same H H')(n:H a=none)(e:H' a=some (.lst vs))(r:Reps X.K H' xs vs):
  ∃H'',Inv X pins σ H'' s/\Same H H''/\Rep X.K H'' (.list xs) (.ref a):=by
 obtain⟨o,J⟩:=I.frz e;refine⟨_,J,λb u hb=>?_,.lst ze (r.mono (xc e rfl))⟩;rw[zd (zj hb n)];exact sm b u hb
def dFz(t:DTF):DTE:=λσ Q=>t σ λxs=>Q (.list xs)
theorem DF.de{t:DTF}(h:DF X e t):DE X e (dFz t):=⟨λpins s σ H H₀ σD Q I ok q=>thn (h.run pins s σ H H₀ σD _ I ok q) λu s' zq34=>by
 obtain⟨a,H',vs,xs,eu,I',sm,n,e,rp,qd⟩:=zq34;obtain⟨H'',J,sm',r'⟩:=zeu I' sm n e rp;exact⟨.ref a,H'',.list xs,J,eu,sm',r',qd⟩⟩
def zk5(i:Nat):DTE:=λσ Q=>match σ[i]? with
 |some (some (.val d))=>Q d
 |_=>False
def zk6(i:Nat):DTE:=λσ Q=>match σ[i]? with
 |some (some (.val d))=>Q d
 |some (some (.own (.lst xs)))=>Q (.list xs)
 |some (some (.vw xs))=>Q (.list xs)
 |_=>False
def dC(d:D):DTE:=λ_ Q=>Q d
theorem zq(i:Nat){x:Str}{pos:Pos}(hN:X.N[i]?=some x:=by rfl)(hv:Vis X.env.scope x:=by first|exact Or.inl rfl|exact Or.inr (Or.inl rfl)|exact Or.inr (Or.inr rfl))(hd:(x ==("__debug__" : Str))=false:=by decide)
  (hcd:(x ==("__classdict__" : Str))=false:=by decide):DE X (.Name x pos) (zk5 i):=by
 refine DE.of (yg (i:=i) hN hv hd hcd) λσ H H₀ σD QD ok q=>?_;unfold zk5 at q
 split at q
 ·next d e=>
  obtain⟨v,e1,r⟩:=ok.val e;exact⟨v,e1,d,Same.refl _,r,q⟩
 ·exact q.elim
theorem zf(i:Nat){x:Str}{pos:Pos}(hN:X.N[i]?=some x:=by rfl)(hv:Vis X.env.scope x:=by first|exact Or.inl rfl|exact Or.inr (Or.inl rfl)|exact Or.inr (Or.inr rfl))(hd:(x ==("__debug__" : Str))=false:=by decide)
  (hcd:(x ==("__classdict__" : Str))=false:=by decide):DV X (.Name x pos) (zk6 i):=by
 refine DV.of (yg (i:=i) hN hv hd hcd) λσ H H₀ σD QD ok q=>?_;unfold zk6 at q
 split at q
 ·next d e=>
  obtain⟨v,e1,r⟩:=ok.val e;exact⟨v,e1,d,Same.refl _,r.top,q⟩
 ·next xs e=>
  obtain⟨a,vs,e1,e2,r,_⟩:=ok.ownL e;exact⟨.ref a,e1,.list xs,Same.refl _,.inr ⟨xs,rfl,a,vs,rfl,.inl e2,r⟩,q⟩
 ·next xs e=>
  obtain⟨v,e1,r⟩:=ok.vw e;exact⟨v,e1,.list xs,Same.refl _,.inr ⟨xs,rfl,r⟩,q⟩
 ·exact q.elim
theorem zc{i j pos}:DE X (.Constant (.int i) j pos) (dC (.int i)):=DE.of yq λσ H H₀ σD QD ok q=>⟨.int i,Same.refl _,.int,q⟩
theorem zal{b j pos}:DE X (.Constant (.bool b) j pos) (dC (.bool b)):=DE.of zpu λσ H H₀ σD QD ok q=>⟨.bool b,Same.refl _,.bl,q⟩
theorem znm{j pos}:DE X (.Constant .none j pos) (dC .none):=DE.of zmz λσ H H₀ σD QD ok q=>⟨.none,Same.refl _,.non,q⟩
theorem z5{x j pos}:DE X (.Constant (.str x) j pos) (dC (.str x)):=DE.of zm0 λσ H H₀ σD QD ok q=>⟨.str x,Same.refl _,.str,q⟩
theorem x3{x:Str}{d:D}{v:V}{u:Value}{pos:Pos}(hg:Gl X x)(hm:X.mg x=some u)(r:RelV v u)(rp:∀H,Rep X.K H d v)(hd:(x ==("__debug__" : Str))=false:=by decide):DE X (.Name x pos) (dC d) :=
 DE.of (y9 hg hm r hd) λσ H H₀ σD QD ok q=>⟨d,Same.refl _,rp H,q⟩
def zig:DTF:=λ_ Q=>Q []
def zdi(t:DTE)(r:DTF):DTF:=λσ Q=>t σ λd=>r σ λds=>Q (d::ds)
theorem zi:DA X [] zig:=⟨λpos pins s σ H H₀ σD Q I ok q=>thn (ye pos pins s σ H (λvs H'=>vs = []/\H'=H) I ⟨rfl,rfl⟩) λus s' zq47=>by obtain⟨vs,H',I',r,e1,e2⟩:=zq47;subst e1 e2;exact⟨[],H',[],I',r,Same.refl _,.nil,q⟩⟩
theorem za{t:DTE}{r:DTF}(ha:DE X e t)(hr:DA X es r)(hs:starEach (e::es) X.env=(false,eval e X.env)::starEach es X.env:=by rfl):DA X (e::es) (zdi t r):=⟨λpos pins s σ H H₀ σD Q I ok q=>by
 refine thn (zn ha.pe hr.pa hs pos pins s σ H (λvs H'=>∃ds,Same H H'/\Reps X.K H' ds vs/\Q ds) I ?_) λus s' zq19=>by obtain⟨vs,H',I',r,ds,sm,rp,qd⟩:=zq19;exact⟨vs,H',ds,I',r,sm,rp,qd⟩
 exact⟨H₀,σD,_,ok,q,λv H1 d s1 r1 q1=>⟨H₀,σD,_,ok.after s1,q1,λvs H2 ds s2 r2 q2=>⟨d::ds,s1.trans s2,.cons (r1.same s2) r2,q2⟩⟩⟩⟩
theorem yv:DAv X [] zig:=⟨λpos pins s σ H H₀ σD Q I ok q=>thn (ye pos pins s σ H (λvs H'=>vs = []/\H'=H) I ⟨rfl,rfl⟩) λus s' zq49=>by obtain⟨vs,H',I',r,e1,e2⟩:=zq49;subst e1 e2;exact⟨[],H',[],I',r,Same.refl _,.nil,q⟩⟩
theorem z6{t:DTE}{r:DTF}(ha:DV X e t)(hr:DAv X es r)(hs:starEach (e::es) X.env=(false,eval e X.env)::starEach es X.env:=by rfl):DAv X (e::es) (zdi t r):=⟨λpos pins s σ H H₀ σD Q I ok q=>by
 refine thn (zn ha.pe hr.pa hs pos pins s σ H (λvs H'=>∃ds,Same H H'/\RepTs X.K H' ds vs/\Q ds) I ?_) λus s' zq20=>by obtain⟨vs,H',I',r,ds,sm,rp,qd⟩:=zq20;exact⟨vs,H',ds,I',r,sm,rp,qd⟩
 exact⟨H₀,σD,_,ok,q,λv H1 d s1 r1 q1=>⟨H₀,σD,_,ok.after s1,q1,λvs H2 ds s2 r2 q2=>⟨d::ds,s1.trans s2,.cons (r1.same s2) r2,q2⟩⟩⟩⟩
def zdj:DTP:=λ_ Q=>Q []
def zih(t:DTE)(r:DTP):DTP:=λσ Q=>t σ λd=>r σ λws=>Q (.val d::ws)
def zk7(i:Nat)(r:DTP):DTP:=λσ Q=>match σ[i]? with
 |some (some (.own (.lst xs)))=>r σ λws=>Q (.vw xs::ws)
 |some (some (.vw xs))=>r σ λws=>Q (.vw xs::ws)
 |some (some (.scr ns))=>r σ λws=>Q (.scr ns::ws)
 |some (some (.val d))=>r σ λws=>Q (.val d::ws)
 |some (some .pen)=>r σ λws=>Q (.pen::ws)
 |_=>False
theorem zo:DPs X [] zdj:=⟨λpos pins s σ H H₀ σD Q I ok q=>thn (ye pos pins s σ H (λvs H'=>vs = []/\H'=H) I ⟨rfl,rfl⟩) λus s' zq49=>by obtain⟨vs,H',I',r,e1,e2⟩:=zq49;subst e1 e2;exact⟨[],H',[],I',r,Same.refl _,.nil,q⟩⟩
theorem yh{t:DTE}{r:DTP}(ha:DE X e t)(hr:DPs X es r)(hs:starEach (e::es) X.env=(false,eval e X.env)::starEach es X.env:=by rfl):DPs X (e::es) (zih t r):=⟨λpos pins s σ H H₀ σD Q I ok q=>by
 refine thn (zn ha.pe hr.pa hs pos pins s σ H (λvs H'=>∃ws,Same H H'/\RepWs X.K H' ws vs/\Q ws) I ?_) λus s' zq20=>by obtain⟨vs,H',I',r,ds,sm,rp,qd⟩:=zq20;exact⟨vs,H',ds,I',r,sm,rp,qd⟩
 exact⟨H₀,σD,_,ok,q,λv H1 d s1 r1 q1=>⟨H₀,σD,_,ok.after s1,q1,λvs H2 ds s2 r2 q2=>⟨.val d::ds,s1.trans s2,.cons (r1.same s2) r2,q2⟩⟩⟩⟩
theorem zp(i:Nat){x:Str}{pos:Pos}{r:DTP}(hr:DPs X es r)(hN:X.N[i]?=some x:=by rfl)(hv:Vis X.env.scope x:=by first|exact Or.inl rfl|exact Or.inr (Or.inl rfl)|exact Or.inr (Or.inr rfl))(hd:(x ==("__debug__" : Str))=false:=by decide)
  (hcd:(x ==("__classdict__" : Str))=false:=by decide) (hs:starEach (.Name x pos::es) X.env=(false,eval (.Name x pos) X.env)::starEach es X.env:=by rfl):DPs X (.Name x pos::es) (zk7 i r):=⟨λpos' pins s σ H H₀ σD Q I ok q=>by
 refine thn (zn (yg (i:=i) hN hv hd hcd) hr.pa hs pos' pins s σ H (λvs H'=>∃ws,Same H H'/\RepWs X.K H' ws vs/\Q ws) I ?_) λus s' zq46=>by obtain⟨vs,H',I',r,ds,sm,rp,qd⟩:=zq46;exact⟨vs,H',ds,I',r,sm,rp,qd⟩
 unfold zk7 at q
 split at q
 ·next xs e=>
  obtain⟨a,vs,e1,e2,r,_⟩:=ok.ownL e;exact⟨.ref a,e1,H₀,σD,_,ok,q,λws H2 ds s2 r2 q2=>⟨.vw xs::ds,s2,.cons (RepL.same s2 ⟨a,vs,rfl,.inl e2,r⟩) r2,q2⟩⟩
 ·next xs e=>
  obtain⟨v,e1,r⟩:=ok.vw e;exact⟨v,e1,H₀,σD,_,ok,q,λws H2 ds s2 r2 q2=>⟨.vw xs::ds,s2,.cons (RepL.same s2 r) r2,q2⟩⟩
 ·next ns e=>
  obtain⟨a,e1,r⟩:=ok.scr e;exact⟨.ref a,e1,H₀,σD,_,ok,q,λws H2 ds s2 r2 q2=>⟨.scr ns::ds,s2,.cons ⟨a,rfl,s2.seq r⟩ r2,q2⟩⟩
 ·next d e=>
  obtain⟨v,e1,r⟩:=ok.val e;exact⟨v,e1,H₀,σD,_,ok,q,λws H2 ds s2 r2 q2=>⟨.val d::ds,s2,.cons (r.same s2) r2,q2⟩⟩
 ·next e=>
  obtain⟨a,e1,r⟩:=ok.pen e;exact⟨.ref a,e1,H₀,σD,_,ok,q,λws H2 ds s2 r2 q2=>⟨.pen::ds,s2,.cons ⟨a,rfl,s2 _ _ r⟩ r2,q2⟩⟩
 ·exact q.elim⟩
def znn(t:DTF):DTE:=λσ Q=>t σ λds=>ds.length<=sizeLine/\Q (.tuple ds)
def zno(t:DTF):DTF:=λσ Q=>t σ λds=>ds.length<=sizeLine/\Q ds
theorem yf{x1 pos}{t:DTF}(h:DA X es t):DE X (.Tuple es x1 pos) (znn t) :=
 DE.of (zer h.pa) λσ H H₀ σD QD ok q=>⟨H₀,σD,_,ok,q,λvs H1 ds s1 r1 q1=>⟨by rw[<-r1.length];exact q1.1,λp hp=>⟨.tuple ds,s1.trans (zt hp _),.tup (SqT.of ze) (r1.same (zt hp _)),q1.2⟩⟩⟩
theorem ym{pos}{t:DTF}(h:DA X es t):DF X (.List es pos) (zno t) :=
 DF.of (zh3 h.pa) λσ H H₀ σD QD ok q=>⟨H₀,σD,_,ok,q,λvs H1 ds s1 r1 q1=>⟨by rw[<-r1.length];exact q1.1,λp hp=>⟨p,vs,ds,rfl,s1.trans (zt hp _),s1.free hp,ze,r1.same (zt hp _),q1.2⟩⟩⟩
variable {a b:Expr}{rest:List Expr}{pos:Pos}
def onB(Q:Bool->Prop):D->Prop
 |.bool b=>Q b
 |_=>False
def dTB(t:DTE):DTT:=λσ Q=>t σ (onB Q)
def znp(t u:DTT):DTT:=λσ Q=>t σ λc=>if c=true then u σ Q else Q false
def dOr(t u:DTT):DTT:=λσ Q=>t σ λc=>if c=true then Q true else u σ Q
def znq(t:DTT):DTT:=λσ Q=>t σ λc=>Q (!c)
theorem DWt.dt{t:DTT}(h:DWt X e t):DT X e t:=⟨h.run _⟩
theorem zk8{t:DTT}(ha:DT X a t):DWt X (.BoolOp .And [a] pos) t:=⟨λwh pins s σ H H₀ σD Q I ok q=>by
 refine isTrue_and (thn (ha.run pins s σ H H₀ σD Q I ok q) λc s1 e=>?_)
 cases c with
 |true=>exact isTrue_and_nil e
 |false=>exact e⟩
theorem zev{t:DTT}(ha:DT X a t):DWt X (.BoolOp .Or [a] pos) t:=⟨λwh pins s σ H H₀ σD Q I ok q=>by
 refine isTrue_or (thn (ha.run pins s σ H H₀ σD Q I ok q) λc s1 e=>?_)
 cases c with
 |false=>exact isTrue_or_nil e
 |true=>exact e⟩
theorem znr{t u:DTT}(ha:DT X a t)(hb:DWt X (.BoolOp .And (b::rest) pos) u):DWt X (.BoolOp .And (a::b::rest) pos) (znp t u):=⟨λwh pins s σ H H₀ σD Q I ok q=>by
 refine isTrue_and (thn (ha.run pins s σ H H₀ σD _ I ok q) λc s1 zr2=>?_);obtain⟨H1,I1,sm,q1⟩:=zr2
 cases c with
 |true=>
  rw[if_pos rfl]at q1;exact thn (hb.run wh pins s1 σ H1 H₀ σD Q I1 (ok.after sm) q1) λ_ _ zq67=>by obtain⟨H2,I2,s2,q2⟩:=zq67;exact⟨H2,I2,sm.trans s2,q2⟩
 |false=>rw[if_neg Bool.false_ne_true]at q1;exact⟨H1,I1,sm,q1⟩⟩
theorem zii{t u:DTT}(ha:DT X a t)(hb:DWt X (.BoolOp .Or (b::rest) pos) u):DWt X (.BoolOp .Or (a::b::rest) pos) (dOr t u):=⟨λwh pins s σ H H₀ σD Q I ok q=>by
 refine isTrue_or (thn (ha.run pins s σ H H₀ σD _ I ok q) λc s1 zr9=>?_);obtain⟨H1,I1,sm,q1⟩:=zr9
 cases c with
 |false=>
  rw[if_neg Bool.false_ne_true]at q1;exact thn (hb.run wh pins s1 σ H1 H₀ σD Q I1 (ok.after sm) q1) λ_ _ zq67=>by obtain⟨H2,I2,s2,q2⟩:=zq67;exact⟨H2,I2,sm.trans s2,q2⟩
 |true=>rw[if_pos rfl]at q1;exact⟨H1,I1,sm,q1⟩⟩
theorem zew{t:DTT}(ha:DT X a t):DT X (.UnaryOp .Not a pos) (znq t):=⟨λpins s σ H H₀ σD Q I ok q=>isTrue_not (ha.run pins s σ H H₀ σD (λc=>Q (!c)) I ok q)⟩
def zij:D->Bool
 |.none=>false
 |.bool b=>b
 |.int i=>i != 0
 |.str x=>(x.length:Int) != 0
 |.tuple xs=>!xs.isEmpty
 |.list xs=>!xs.isEmpty
 |.dict kvs=>!kvs.isEmpty
def zns(t:DTE):DTT:=λσ Q=>t σ λd=>match d with
 |.str x=>x.length<=sizeLine/\Q (zij (.str x))
 |.dict _=>False
 |d=>Q (zij d)
theorem zex{K:PySem.W.Frag}{H:Hp}{ds:List D}{vs:List V}(r:Reps K H ds vs):(!vs.isEmpty) = !ds.isEmpty:=by cases r <;> rfl
theorem v4{K:PySem.W.Frag}{H:Hp}{d:D}{v:V}(r:RepT K H d v)(h:match d with|.str x=>x.length<=sizeLine|.dict _=>False|_=>True):znb K v H (zij d):=by
 rcases r with r |⟨xs,rfl,a,vs,rfl,e,r⟩
 ·cases r with
  |non=>rfl
  |bl=>rfl
  |int=>rfl
  |str=>exact⟨h,rfl⟩
  |tup q r=>exact .inr (.inl ⟨_,q,(zex r).symm⟩)
  |lst q r=>exact .inl ⟨_,.inl (.inr ⟨_,q⟩),(zex r).symm⟩
  |dic q r=>exact h.elim
 ·exact .inl ⟨vs,.inl e,(zex r).symm⟩
theorem qt{t:DTE}(h:DV X e t)(he:∀whole,isTrue e X.env whole=(do let v <-whole;standAt e.pos;holding [v] (truthy v)):=by intro _;rfl):DT X e (zns t) :=
 DT.of (zdb h.pe he) λσ H H₀ σD QD ok q=>⟨H₀,σD,_,ok,q,λv H1 d s1 r1 q1=>by
  cases d with
  |str x=>exact⟨_,v4 r1 q1.1,s1,q1.2⟩
  |dict _=>exact q1.elim
  |none=>exact⟨_,v4 r1 trivial,s1,q1⟩
  |bool _=>exact⟨_,v4 r1 trivial,s1,q1⟩
  |int _=>exact⟨_,v4 r1 trivial,s1,q1⟩
  |tuple _=>exact⟨_,v4 r1 trivial,s1,q1⟩
  |list _=>exact⟨_,v4 r1 trivial,s1,q1⟩⟩
def zik(t u:DTE):DTE:=λσ Q=>t σ λd=>match d with
 |.bool c=>if c=true then u σ Q else Q (.bool false)
 |_=>False
def znt(c:DTT)(t u:DTE):DTE:=λσ Q=>c σ λb=>if b=true then t σ Q else u σ Q
theorem znu{op}{t:DTE}(h:DE X a t):DE X (.BoolOp op [a] pos) t:=⟨λpins s σ H H₀ σD Q I ok q=>BoolOp_one (h.run pins s σ H H₀ σD Q I ok q)⟩
theorem DEnd.back{pins:List (Addr×Obj)}{σ:St}{H H1:Hp}{Q:D->Prop}{u:Value}{s':Shared}(s1:Same H H1)(h:DEnd X pins σ H1 Q u s'):DEnd X pins σ H Q u s':=let ⟨v,H',d,I',r,sm,rp,qd⟩:=h;⟨v,H',d,I',r,s1.trans sm,rp,qd⟩
theorem znv{t u:DTE}(ha:DE X a t)(hb:DE X (.BoolOp .And (b::rest) pos) u):DE X (.BoolOp .And (a::b::rest) pos) (zik t u):=⟨λpins s σ H H₀ σD Q I ok q=>by
 refine BoolOp_and (thn (ha.run pins s σ H H₀ σD _ I ok q) λv s1 zr64=>?_);obtain⟨x,H1,d,I1,r1,sm,rp,q1⟩:=zr64
 cases d with
 |bool c=>
  cases rp
  cases r1;refine wpAny_truthy_bool ?_
  cases c with
  |true=>exact thn (hb.run pins s1 σ H1 H₀ σD Q I1 (ok.after sm) (by simpa using q1)) λ_ _ h=>h.back sm
  |false=>exact⟨.bl false,H1,.bool false,I1,rfl,sm,.bl,by simpa using q1⟩
 |_=>exact q1.elim⟩
theorem zil{c:Expr}{tc:DTT}{t u:DTE}(hc:DT X c tc)(ha:DE X a t)(hb:DE X b u):DE X (.IfExp c a b pos) (znt tc t u) :=
 DE.of (zhs hc.pt ha.pe hb.pe) λσ H H₀ σD QD ok q=>⟨H₀,σD,_,ok,q,λk H1 s1 q1=>by
  cases k with
  |true=>rw[if_pos rfl]at q1 ⊢;exact⟨H₀,σD,_,ok.after s1,q1,λv H2 d s2 r2 q2=>⟨d,s1.trans s2,r2,q2⟩⟩
  |false=>rw[if_neg Bool.false_ne_true]at q1 ⊢;exact⟨H₀,σD,_,ok.after s1,q1,λv H2 d s2 r2 q2=>⟨d,s1.trans s2,r2,q2⟩⟩⟩
end
section
variable {X:Cx}{pins:List (Addr×Obj)}{σ:St}{H:Hp}{s:Shared}
theorem Reps.readsW(I:Inv X pins σ H s){ds:List D}{vs:List V}(h:Reps X.K H ds vs)(k:∀d∈ds,∀(v:V) (u:Value),Rep X.K H d v->RelV v u->d.canLay0=true->∃as,Reads s.heap u d as){us:List Value}(r:Vals vs us)(c:PyData.canLayAll0 ds=true):∃as,ReadsAll s.heap us ds as:=by
 induction ds generalizing vs us with
 |nil=>cases h;cases r;exact⟨_,.nil⟩
 |cons d ds ih=>
  cases h with
  |cons q t=>
   cases r with
   |cons r1 r2=>
    simp only[PyData.canLayAll0,Bool.and_eq_true]at c;obtain⟨as,ra⟩:=k d List.mem_cons_self _ _ q r1 c.1;obtain⟨bs,rb⟩:=ih t (λx hx=>k x (List.mem_cons_of_mem _ hx)) r2 c.2;exact⟨_,.cons ra rb⟩
theorem Rep.reads(I:Inv X pins σ H s){d:D}{v:V}{u:Value}(h:Rep X.K H d v)(r:RelV v u)(c:d.canLay0=true):∃as,Reads s.heap u d as:=by
 refine Rep.rec (motive_1:=λd v _=>∀u:Value,RelV v u->d.canLay0=true->∃as,Reads s.heap u d as) (motive_2:=λds vs _=>∀us:List Value,Vals vs us->PyData.canLayAll0 ds=true->∃as,ReadsAll s.heap us ds as) (motive_3:=λ_ _ _=>True)
  ?_ ?_ ?_ ?_ ?_ ?_ ?_ ?_ ?_ trivial (λ_ _ _ _=>trivial) h u r c
 ·intro u r _;cases r;exact⟨_,.none⟩
 ·intro b u r _;cases r;exact⟨_,.bool _⟩
 ·intro i u r _;obtain⟨t,rfl⟩:=r;exact⟨_,.int _ _⟩
 ·intro x u r _;obtain⟨t,rfl⟩:=r;exact⟨_,.str _ _⟩
 ·intro xs a vs h q ih u r c
  cases r;obtain⟨its,rv,⟨o,e1,e2,n,e3⟩,_⟩:=I.tuple h;obtain⟨as,ra⟩:=ih its rv (by simpa[PyData.canLay0]using c);exact⟨_,.tuple e1 e2 e3 (by simpa using ra)⟩
 ·intro xs a vs o h q ih u r c
  cases r;obtain⟨_,z,its,n,rv,e⟩:=I.hok _ _ h;obtain⟨as,ra⟩:=ih its rv (by simpa[PyData.canLay0]using c);exact⟨_,.list e rfl rfl (by simpa using ra)⟩
 ·intro kvs a kws o h q ih u r c;simp[PyData.canLay0]at c
 ·intro us r _;cases r;exact⟨_,.nil⟩
 ·intro d v ds vs q t i j us r c
  cases r with
  |cons r1 r2=>
   simp only[PyData.canLayAll0,Bool.and_eq_true]at c;obtain⟨as,ra⟩:=i _ r1 c.1;obtain⟨bs,rb⟩:=j _ r2 c.2;exact⟨_,.cons ra rb⟩
theorem Reps.reads(I:Inv X pins σ H s){ds:List D}{vs:List V}{us:List Value}(h:Reps X.K H ds vs)(r:Vals vs us)(c:PyData.canLayAll0 ds=true):∃as,ReadsAll s.heap us ds as:=h.readsW I (λ_ _ _ _ q r c=>q.reads I r c) r c
theorem RepT.reads(I:Inv X pins σ H s){d:D}{v:V}{u:Value}(h:RepT X.K H d v)(r:RelV v u)(c:d.canLay0=true):∃as,Reads s.heap u d as:=by
 rcases h with h |⟨xs,rfl,a,vs,rfl,e,q⟩
 ·exact h.reads I r c
 ·cases r;obtain⟨z,its,n,rv,e⟩:=e.ok I.hok;obtain⟨as,ra⟩:=Reps.reads I q rv (by simpa[PyData.canLay0]using c);exact⟨_,.list e rfl rfl (by simpa using ra)⟩
end
def Lay(d:D):Prop:=SeqAt.shaped d=true
theorem Lay.can{d:D}(h:Lay d):d.canLay0=true:=by unfold Lay SeqAt.shaped at h;rw[Bool.and_eq_true]at h;exact h.1
theorem Lay.deep{d:D}(h:Lay d):d.depth<=64:=by unfold Lay SeqAt.shaped at h;rw[Bool.and_eq_true]at h;exact of_decide_eq_true h.2
abbrev DOp:=D->D->(D->Prop)->Prop
structure OpD(X:Cx)(f:Value->Value->Sem Value)(g:DOp):Prop where
 run:∀(pins:List (Addr×Obj)) (s:Shared) (σ:St) (H:Hp) (x y:V) (v u:Value) (a b:D) (Q:D->Prop),Inv X pins σ H s->RelV x v->RelV y u->RepT X.K H a x->RepT X.K H b y->g a b Q->wpAny (model X.prog X.w) X.A (f v u) (DEnd X pins σ H Q) X.xe s
structure OpF(X:Cx)(f:Value->Value->Sem Value)(g:D->D->(List D->Prop)->Prop):Prop where
 run:∀(pins:List (Addr×Obj)) (s:Shared) (σ:St) (H:Hp) (x y:V) (v u:Value) (a b:D) (Q:List D->Prop),Inv X pins σ H s->RelV x v->RelV y u->RepT X.K H a x->RepT X.K H b y->g a b Q->wpAny (model X.prog X.w) X.A (f v u) (zf5 X pins σ H Q) X.xe s
def dOp(g:DOp)(ta tb:DTE):DTE:=λσ Q=>ta σ λa=>tb σ λb=>g a b Q
section
variable {X:Cx}{a b c:Expr}{ta tb tc:DTE}{pos:Pos}
theorem OpD.of{f:Value->Value->Sem Value}{r:R2}{g:DOp}(h:OpR X f r)(k:∀x y H a b Q,RepT X.K H a x->RepT X.K H b y->g a b Q->r x y H (λv H'=>∃d,Same H H'/\Rep X.K H' d v/\Q d)):OpD X f g :=
 ⟨λpins s σ H x y v u a b Q I rx ry ra rb q=>thn (h pins s σ H x y v u _ I rx ry (k x y H a b Q ra rb q)) λw s' zq15=>by obtain⟨z,H',I',rz,d,sm,rp,qd⟩:=zq15;exact⟨z,H',d,I',rz,sm,rp,qd⟩⟩
theorem OpF.of{f:Value->Value->Sem Value}{r:R2}{g:D->D->(List D->Prop)->Prop}(h:OpR X f r)(k:∀x y H a b Q,RepT X.K H a x->RepT X.K H b y->g a b Q->r x y H (λv H'=>∃p vs xs,v=.ref p/\Same H H'/\H p=none/\H' p=some (.lst vs)/\Reps X.K H' xs vs/\Q xs)):OpF X f g :=
 ⟨λpins s σ H x y v u a b Q I rx ry ra rb q=>thn (h pins s σ H x y v u _ I rx ry (k x y H a b Q ra rb q)) λw s' zq15=>by obtain⟨z,H',I',rz,p,vs,xs,ez,sm,n,e,rp,qd⟩:=zq15;exact⟨p,H',vs,xs,by subst ez;exact rz,I',sm,n,e,rp,qd⟩⟩
theorem OpF.opD{f:Value->Value->Sem Value}{g:D->D->(List D->Prop)->Prop}(h:OpF X f g):OpD X f (λa b Q=>g a b λxs=>Q (.list xs)) :=
 ⟨λpins s σ H x y v u a b Q I rx ry ra rb q=>thn (h.run pins s σ H x y v u a b _ I rx ry ra rb q) λw s' zq7=>by
  obtain⟨p,H',vs,xs,ew,I',sm,n,e,rp,qd⟩:=zq7;obtain⟨H'',J,sm',r'⟩:=zeu I' sm n e rp;exact⟨.ref p,H'',.list xs,J,ew,sm',r',qd⟩⟩
theorem zql{ta tb:DTE}(ha:DV X a ta)(hb:DV X b tb){pins:List (Addr×Obj)}{s:Shared}{σ:St}{H H₀:Hp}{σD:DSt}{R:D->D->Prop}(I:Inv X pins σ H s)(ok:DOk X.K H₀ H σD σ)(h:ta σD λx=>tb σD λy=>R x y)
  {α:Type}{Q:α->Shared->Prop}{f:Value->Value->Sem α}
  (hf:∀v u s2 x y H2 d e,Inv X pins σ H2 s2->RelV x v->RelV y u->Same H H2->RepT X.K H2 d x->RepT X.K H2 e y->R d e->wpAny (model X.prog X.w) X.A (f v u) Q X.xe s2) :
  wpAny (model X.prog X.w) X.A (eval a X.env) (λv s₁=>wpAny (model X.prog X.w) X.A (eval b X.env) (λu s₂=>wpAny (model X.prog X.w) X.A (f v u) Q X.xe s₂) X.xe s₁) X.xe s:=by
 refine thn (ha.run pins s σ H H₀ σD _ I ok h) λv s1 zr1=>?_;obtain⟨x,H1,d,I1,r1,sm1,p1,q1⟩:=zr1;refine thn (hb.run pins s1 σ H1 H₀ σD _ I1 (ok.after sm1) q1) λu s2 zr2=>?_;obtain⟨y,H2,e,I2,r2,sm2,p2,q2⟩:=zr2;exact hf v u s2 x y H2 d e I2 r1 r2 (sm1.trans sm2) (p1.same sm2) p2 q2
theorem zv{op:Operator}{g:DOp}(ho:OpD X (binaryOp op) g)(ha:DV X a ta)(hb:DV X b tb):DE X (.BinOp a op b pos) (dOp g ta tb) :=
 ⟨λpins s σ H H₀ σD Q I ok q=>wpAny_BinOp (zql ha hb I ok q λv u s2 x y H2 d e I2 rx ry sm rd re qd=>thn (ho.run pins s2 σ H2 x y v u d e Q I2 rx ry rd re qd) λ_ _ z=>z.back sm)⟩
theorem zam{op:CmpOp}{g:DOp}(ho:OpD X (compareOp op) g)(ha:DV X a ta)(hb:DV X b tb)(hm:behindInMarks op b=false):DE X (.Compare a [op] [b] pos) (dOp g ta tb) :=
 ⟨λpins s σ H H₀ σD Q I ok q=>wpAny_Compare1 (zql ha hb I ok q λv u s2 x y H2 d e I2 rx ry sm rd re qd=>thn (ho.run pins s2 σ H2 x y v u d e Q I2 rx ry rd re qd) λ_ _ z=>z.back sm) hm⟩
theorem y7{op:CmpOp}{g:DOp}(ho:OpD X (compareOp op) g)(ha:DV X a ta)(hb:DV X b tb)(hm:behindInMarks op b=false):DT X (.Compare a [op] [b] pos) (dTB (dOp g ta tb)) :=
 ⟨λpins s σ H H₀ σD Q I ok q=>by
  refine wpAny_isTrue_Compare1 (thn (ha.run pins s σ H H₀ σD _ I ok q) λv s1 ⟨x,H1,d,I1,r1,sm1,p1,q1⟩=>thn (hb.run pins s1 σ H1 H₀ σD _ I1 (ok.after sm1) q1) λu s2 ⟨y,H2,e,I2,r2,sm2,p2,q2⟩=>
   thn (ho.run pins s2 σ H2 x y v u d e _ I2 r1 r2 (p1.same sm2) p2 q2) λk s3 ⟨z,H3,dz,I3,r3,sm3,p3,q3⟩=>?_) hm
  cases dz with
  |bool k=>
   cases p3
   cases r3;exact wpAny_truthy_bool ⟨H3,I3,(sm1.trans sm2).trans sm3,q3⟩
  |_=>exact q3.elim⟩
def dUn(g:D->(D->Prop)->Prop)(ta:DTE):DTE:=λσ Q=>ta σ λa=>g a Q
def znw:D->(D->Prop)->Prop
 |.int i,Q=>Q (.int (-i))
 |_,_=>False
theorem znx(ha:DE X a ta):DE X (.UnaryOp .USub a pos) (dUn znw ta) :=
 DE.of (zmd zhx ha.pe) λσ H H₀ σD QD ok q=>⟨H₀,σD,_,ok,q,λv H1 d s1 r1 q1=>by
  cases d with
  |int i=>cases r1;exact⟨i,rfl,.int (-i),s1,.int,q1⟩
  |_=>exact q1.elim⟩
theorem RepT.int{K:PySem.W.Frag}{H:Hp}{i:Int}{v:V}(h:RepT K H (.int i) v):v=.int i:=by
 rcases h with h |⟨_,e,_⟩
 ·cases h;rfl
 ·cases e
theorem RepT.str{K:PySem.W.Frag}{H:Hp}{i:Str}{v:V}(h:RepT K H (.str i) v):v=.str i:=by
 rcases h with h |⟨_,e,_⟩
 ·cases h;rfl
 ·cases e
theorem RepT.bool{K:PySem.W.Frag}{H:Hp}{i:Bool}{v:V}(h:RepT K H (.bool i) v):v=.bl i:=by
 rcases h with h |⟨_,e,_⟩
 ·cases h;rfl
 ·cases e
theorem RepT.none{K:PySem.W.Frag}{H:Hp}{v:V}(h:RepT K H .none v):v=.non:=by
 rcases h with h |⟨_,e,_⟩
 ·cases h;rfl
 ·cases e
theorem RepT.tuple{K:PySem.W.Frag}{H:Hp}{xs:List D}{v:V}(h:RepT K H (.tuple xs) v):∃a vs,v=.ref a/\SqT K H a vs/\Reps K H xs vs:=by
 rcases h with h |⟨_,e,_⟩
 ·cases h with
  |tup h r=>exact⟨_,_,rfl,h,r⟩
 ·cases e
def gII(C:Int->Int->Prop)(f:Int->Int->D):DOp
 |.int i,.int j,Q=>C i j/\Q (f i j)
 |_,_,_=>False
def zdk(f:Int->Int->D):DOp
 |.int i,.int j,Q=>Q (f i j)
 |_,_,_=>False
theorem OpD.ii{f:Value->Value->Sem Value}{C:Int->Int->Prop}{g:Int->Int->Int}(h:OpR X f (rI C λi j=>.int (g i j))):OpD X f (gII C λi j=>.int (g i j)) :=
 OpD.of h λx y H a b Q ra rb q=>by
  cases a with
  |int i=>
   cases b with
   |int j=>cases ra.int;cases rb.int;exact⟨i,j,rfl,rfl,q.1,.int _,Same.refl _,.int,q.2⟩
   |_=>exact q.elim
  |_=>exact q.elim
theorem OpD.ii0{f:Value->Value->Sem Value}{g:Int->Int->Int}(h:OpR X f (rI0 λi j=>.int (g i j))):OpD X f (zdk λi j=>.int (g i j)) :=
 OpD.of h λx y H a b Q ra rb q=>by
  cases a with
  |int i=>
   cases b with
   |int j=>cases ra.int;cases rb.int;exact⟨i,j,rfl,rfl,.int _,Same.refl _,.int,q⟩
   |_=>exact q.elim
  |_=>exact q.elim
theorem OpD.ib0{f:Value->Value->Sem Value}{g:Int->Int->Bool}(h:OpR X f (rI0 λi j=>.bl (g i j))):OpD X f (zdk λi j=>.bool (g i j)) :=
 OpD.of h λx y H a b Q ra rb q=>by
  cases a with
  |int i=>
   cases b with
   |int j=>cases ra.int;cases rb.int;exact⟨i,j,rfl,rfl,.bool _,Same.refl _,.bl,q⟩
   |_=>exact q.elim
  |_=>exact q.elim
theorem zb2:OpD X (binaryOp .Sub) (zdk λi j=>.int (i-j)):=OpD.ii0 zm7
theorem zim:OpD X (binaryOp .Mod) (gII (λ_ j=>0<j) λi j=>.int (i % j)):=OpD.ii zei
theorem zmj:OpD X (binaryOp .Pow) (gII zm6 λi j=>.int (i ^ j.toNat)):=OpD.ii zm9
theorem zny:OpD X (compareOp .Lt) (zdk λi j=>.bool (decide (i<j))):=OpD.ib0 zp2
theorem znz:OpD X (compareOp .Gt) (zdk λi j=>.bool (decide (j<i))):=OpD.ib0 zmf
theorem zqm:OpD X (compareOp .GtE) (zdk λi j=>.bool (decide (j<=i))):=OpD.ib0 zp3
def zn0:D->D->(List D->Prop)->Prop
 |.list xs,.list ys,Q=>xs.length+ys.length<=sizeLine/\Q (xs++ys)
 |_,_,_=>False
theorem zk9:OpR X (binaryOp .Add) (λx y H Q=>∃l b xs zs,x=.ref l/\y=.ref b/\Rd H l (.lst xs)/\Rd H b (.lst zs)/\xs.length+zs.length<=sizeLine/\∀p,H p=none->Q (.ref p) (upd H p (.lst (xs++zs)))):=by
 intro pins s σ H x y v u Q I rx ry h;obtain⟨l,b,xs,zs,rfl,rfl,hH,hB,hz,q⟩:=h
 cases rx
 cases ry;obtain⟨z,its,n,r,e⟩:=hH.ok I.hok;obtain⟨z2,its2,n2,r2,e2⟩:=hB.ok I.hok;have hl:=r.length;have hl2:=r2.length;refine PySem.P.add_list e e2 ?_ (by rw[List.size_toArray,List.size_toArray];omega);have ea:its.toArray++its2.toArray=(its++its2).toArray:=by simp
 rw[ea];exact⟨.ref _,_,I.lnew (t':=s.toks) (r.append r2) (by rw[List.length_append];omega),rfl,q _ I.fresh⟩
theorem f_cat:OpF X (binaryOp .Add) zn0:=OpF.of zk9 λx y H a b Q ra rb q=>by
 cases a with
 |list xs=>
  cases b with
  |list ys=>
   obtain⟨l,vs,rfl,hl,r1⟩:=ra.list;obtain⟨m,ws,rfl,hm,r2⟩:=rb.list;exact⟨l,m,vs,ws,rfl,rfl,hl,hm,by rw[<-r1.length,<-r2.length];exact q.1,λp hp=>⟨p,_,xs++ys,rfl,zt hp _,hp,ze,(r1.append r2).same (zt hp _),q.2⟩⟩
  |_=>exact q.elim
 |_=>exact q.elim
def zn1:D->D->(List D->Prop)->Prop
 |.list xs,.int k,Q=>-(2 ^ 63)<=k/\k<2 ^ 63/\xs.length * k.toNat<=sizeLine/\Q (List.replicate k.toNat xs).flatten
 |_,_,_=>False
theorem zla:OpR X (binaryOp .Mult) (λx y H Q=>∃l k xs,x=.ref l/\y=.int k/\Rd H l (.lst xs)/\-(2 ^ 63)<=k/\k<2 ^ 63/\xs.length * k.toNat<=sizeLine /\
 ∀p,H p=none->Q (.ref p) (upd H p (.lst (List.replicate k.toNat xs).flatten))):=by
 intro pins s σ H x y v u Q I rx ry h;obtain⟨l,k,xs,rfl,rfl,hH,h1,h2,hz,q⟩:=h
 cases rx;obtain⟨t,rfl⟩:=ry;obtain⟨z,its,n,r,e⟩:=hH.ok I.hok;have hl:=r.length;have hlen:its.toArray.size * k.toNat<=sizeLine:=by rw[List.size_toArray,<-hl];exact hz
 have hcap:¬ its.toArray.size * k.toNat >(2 ^ 63-1) / 8:=by
  have:(sizeLine:Nat)<=(2 ^ 63-1) / 8:=by decide
  omega
 have hfit:¬ (!Builtin.List.listFitsIndex k)=true:=by
  rw[fitsIndex_both h1 h2];exact Bool.false_ne_true
 have hlong:¬ Builtin.List.listTooLong (its.toArray.size * k.toNat)=true:=by
  rw[zh8 hlen];exact Bool.false_ne_true
 have hnew:List.foldl (λx1 x2=>x1++x2) #[] (List.replicate (if its.toArray.isEmpty=true then 0 else k.toNat) its.toArray)=(List.replicate k.toNat its).flatten.toArray:=by
  have f0:∀m:Nat,List.foldl (λx1 x2=>x1++x2) #[] (List.replicate m its.toArray)=(List.replicate m its).flatten.toArray:=λm=>by
   have:=zbz its m [];rw[List.nil_append]at this;exact this
  rw[f0]
  cases its with
  |nil=>simp
  |cons a r'=>rw[if_neg (by simp)]
 refine wpAny_binaryOp_repeat_ref (T := "list") (U := "int") (by decide) ⟨_,e,rfl⟩ (λs'=>typeIs_int s' k t) noFill_list_mul F.fills_int_mul F.slot_int_rmul repeat_list F.slot_int_index.lookup
  (call_meets F.slot_int_rmul (typeIs_int s k t) F.entry_int_rmul (F.args_int_rmul_2 _ _) (int___rmul___int_list k t l its.toArray n)
   ⟨e,rfl,⟨_,e,rfl⟩,call_meets F.slot_list_mul ⟨_,e,rfl⟩ F.entry_list_mul (F.args_list_mul_2 _ _) (AutoListH.list___mul___list_int_3 l its.toArray n k t hfit hcap hlong) ⟨e,?_⟩⟩)
 rw[hnew];exact⟨.ref _,_,I.lnew (t':=s.toks) (r.rep k.toNat) (by rw[zk1,Nat.mul_comm];exact hz),rfl,q _ I.fresh⟩
theorem f_rep:OpF X (binaryOp .Mult) zn1:=OpF.of zla λx y H a b Q ra rb q=>by
 cases a with
 |list xs=>
  cases b with
  |int k=>
   obtain⟨l,vs,rfl,hl,r1⟩:=ra.list
   cases rb.int;obtain⟨h1,h2,h3,q⟩:=q;exact⟨l,k,vs,rfl,rfl,hl,h1,h2,by rw[<-r1.length];exact h3,λp hp=>⟨p,_,_,rfl,zt hp _,hp,ze,(r1.rep k.toNat).same (zt hp _),q⟩⟩
  |_=>exact q.elim
 |_=>exact q.elim
def zn2:DOp
 |.int i,.int j,Q=>Q (.int (i+j))
 |.str x,.str y,Q=>x.length+y.length<=sizeLine/\Q (.str (x++y))
 |.tuple xs,.tuple ys,Q=>xs.length+ys.length<=sizeLine/\Q (.tuple (xs++ys))
 |.list xs,.list ys,Q=>xs.length+ys.length<=sizeLine/\Q (.list (xs++ys))
 |_,_,_=>False
theorem zlb:OpR X (binaryOp .Add) (λx y H Q=>∃a b xs ys,x=.ref a/\y=.ref b/\SqT X.K H a xs/\SqT X.K H b ys/\xs.length+ys.length<=sizeLine/\∀p H',Same H H'->SqT X.K H' p (xs++ys)->Q (.ref p) H'):=by
 intro pins s σ H x y v u Q I rx ry h;obtain⟨a,b,xs,ys,rfl,rfl,ha,hb,hz,q⟩:=h
 cases rx
 cases ry;obtain⟨its,r1,p1,_⟩:=I.tuple ha;obtain⟨its2,r2,p2,_⟩:=I.tuple hb
 by_cases hx:xs = []
 ·obtain⟨⟨cls,dd,data,sl⟩,ho,hc,n,hd⟩:=id p1;obtain⟨⟨cls2,dd2,data2,sl2⟩,ho2,hc2,n2,hd2⟩:=id p2;simp only at hc hd hc2 hd2;subst hc hd hc2 hd2;have hv:its = []:=r1.nil_iff.mpr hx;refine concat_meets ⟨_,ho,rfl⟩ ⟨_,ho2,rfl⟩ noFill_tuple_add seq_tuple_add PySem.F.slot_tuple_add PySem.F.entry_tuple_add (PySem.F.args_tuple_add_2 _ _) (tuple_addW0 a b its.toArray its2.toArray n n2 dd dd2 sl sl2 (by simp[hv])) ⟨ho,ho2,?_⟩;exact⟨.ref b,H,I,rfl,q b H (Same.refl H) (by rw[hx,List.nil_append];exact hb)⟩
 ·refine HT.cat_tup p1 p2 (λz=>hx (r1.nil_iff.mp z)) (λz=>⟨.ref a,H,I,rfl,q a H (Same.refl H) (by rw[r2.nil_iff.mp z,List.append_nil];exact ha)⟩) (λz=>?_) (by rw[<-r1.length,<-r2.length];exact hz);refine⟨.ref s.heap.objs.size,_,I.laid (t':=s.toks) (o:=.tup (xs++ys)) (λb ob q=>Heap.get?_push_of_some _ q) (Nat.le_refl _) ?_,rfl,q _ _ (zt (I.hok.fresh (Nat.le_refl _)) _) (SqT.of ze)⟩;exact⟨by rw[List.length_append];exact hz,_,r1.append r2,TupD.new _ _⟩
theorem o_catT:OpD X (binaryOp .Add) (λa b Q=>match a,b with|.tuple xs,.tuple ys=>xs.length+ys.length<=sizeLine/\Q (.tuple (xs++ys))|_,_=>False):=OpD.of zlb λx y H a b Q ra rb q=>by
 cases a with
 |tuple xs=>
  cases b with
  |tuple ys=>
   obtain⟨l,vs,rfl,hl,r1⟩:=ra.tuple;obtain⟨m,ws,rfl,hm,r2⟩:=rb.tuple;exact⟨l,m,vs,ws,rfl,rfl,hl,hm,by rw[<-r1.length,<-r2.length];exact q.1,λp H' sm e=>⟨_,sm,.tup e ((r1.append r2).same sm),q.2⟩⟩
  |_=>exact q.elim
 |_=>exact q.elim
theorem o_addS:OpD X (binaryOp .Add) (λa b Q=>match a,b with|.str x,.str y=>x.length+y.length<=sizeLine/\Q (.str (x++y))|_,_=>False):=OpD.of zek λx y H a b Q ra rb q=>by
 cases a with
 |str xs=>
  cases b with
  |str ys=>cases ra.str;cases rb.str;exact⟨_,_,rfl,rfl,q.1,.str _,Same.refl _,.str,q.2⟩
  |_=>exact q.elim
 |_=>exact q.elim
theorem xa:OpD X (binaryOp .Add) zn2:=⟨λpins s σ H x y v u a b Q I rx ry ra rb q=>by
 cases a with
 |int i=>cases b with
  |int j=>exact(OpD.ii0 zhw).run pins s σ H x y v u _ _ Q I rx ry ra rb q
  |_=>exact q.elim
 |str i=>cases b with
  |str j=>exact o_addS.run pins s σ H x y v u _ _ Q I rx ry ra rb q
  |_=>exact q.elim
 |tuple i=>cases b with
  |tuple j=>exact o_catT.run pins s σ H x y v u _ _ Q I rx ry ra rb q
  |_=>exact q.elim
 |list i=>cases b with
  |list j=>exact f_cat.opD.run pins s σ H x y v u _ _ Q I rx ry ra rb q
  |_=>exact q.elim
 |_=>exact q.elim⟩
def zn3:DOp
 |.int i,.int j,Q=>CMul i j/\Q (.int (i * j))
 |.list xs,.int k,Q=>-(2 ^ 63)<=k/\k<2 ^ 63/\xs.length * k.toNat<=sizeLine/\Q (.list (List.replicate k.toNat xs).flatten)
 |_,_,_=>False
theorem zf6:OpD X (binaryOp .Mult) zn3:=⟨λpins s σ H x y v u a b Q I rx ry ra rb q=>by
 cases a with
 |int i=>cases b with
  |int j=>exact(OpD.ii zm8).run pins s σ H x y v u _ _ Q I rx ry ra rb q
  |_=>exact q.elim
 |list i=>cases b with
  |int j=>exact f_rep.opD.run pins s σ H x y v u _ _ Q I rx ry ra rb q
  |_=>exact q.elim
 |_=>exact q.elim⟩
def gEq:DOp
 |.int i,.int j,Q=>Q (.bool (decide (i=j)))
 |.str i,.str j,Q=>Q (.bool (decide (i=j)))
 |.bool i,.bool j,Q=>Q (.bool (decide (i=j)))
 |a,b,Q=>Lay a/\Lay b/\Q (.bool (PyData.eqv a b))
def gNe:DOp
 |.int i,.int j,Q=>Q (.bool (!decide (i=j)))
 |.str i,.str j,Q=>Q (.bool (!decide (i=j)))
 |.bool i,.bool j,Q=>Q (.bool (!decide (i=j)))
 |a,b,Q=>Lay a/\Lay b/\Q (.bool (!PyData.eqv a b))
theorem zmk(hu:X.A.units+64<cLine):OpD X (compareOp .Eq) (λa b Q=>Lay a/\Lay b/\Q (.bool (PyData.eqv a b))):=⟨λpins s σ H x y v u a b Q I rx ry ra rb q=>by
 obtain⟨as,e1⟩:=ra.reads I rx q.1.can;obtain⟨bs,e2⟩:=rb.reads I ry q.2.1.can;exact eq_dataH e1 e2 q.1 q.2.1 hu ⟨.bl _,H,_,I,rfl,Same.refl _,.bl,q.2.2⟩⟩
theorem zml(hu:X.A.units+64<cLine):OpD X (compareOp .NotEq) (λa b Q=>Lay a/\Lay b/\Q (.bool (!PyData.eqv a b))):=⟨λpins s σ H x y v u a b Q I rx ry ra rb q=>by
 obtain⟨as,e1⟩:=ra.reads I rx q.1.can;obtain⟨bs,e2⟩:=rb.reads I ry q.2.1.can;exact ne_dataH e1 e2 q.1 q.2.1 hu ⟨.bl _,H,_,I,rfl,Same.refl _,.bl,q.2.2⟩⟩
theorem zf7{f:D->D->Bool}(neg:Bool)(op:CmpOp)(h:OpR X (compareOp op) (λx y H Q=>zna x y=true/\Q (.bl (if neg then !decide (x=y) else decide (x=y))) H)):
  OpD X (compareOp op) (λa b Q=>match a,b with
   |.int i,.int j=>Q (.bool (if neg then !decide (i=j) else decide (i=j)))
   |.str i,.str j=>Q (.bool (if neg then !decide (i=j) else decide (i=j)))
   |.bool i,.bool j=>Q (.bool (if neg then !decide (i=j) else decide (i=j)))
   |_,_=>False):=OpD.of h λx y H a b Q ra rb q=>by
 cases a with
 |int i=>cases b with
  |int j=>
   cases ra.int;cases rb.int;have e:decide (V.int i=V.int j)=decide (i=j):=by rw[Bool.eq_iff_iff];simp
   rw[e];exact⟨rfl,.bool _,Same.refl _,.bl,q⟩
  |_=>exact q.elim
 |str i=>cases b with
  |str j=>
   cases ra.str;cases rb.str;have e:decide (V.str i=V.str j)=decide (i=j):=by rw[Bool.eq_iff_iff];simp
   rw[e];exact⟨rfl,.bool _,Same.refl _,.bl,q⟩
  |_=>exact q.elim
 |bool i=>cases b with
  |bool j=>
   cases ra.bool;cases rb.bool;have e:decide (V.bl i=V.bl j)=decide (i=j):=by rw[Bool.eq_iff_iff];simp
   rw[e];exact⟨rfl,.bool _,Same.refl _,.bl,q⟩
  |_=>exact q.elim
 |_=>exact q.elim
theorem zlc{k:Nat}(hr:Room k X.A):OpD X (compareOp .Eq) gEq:=⟨λpins s σ H x y v u a b Q I rx ry ra rb q=>by
 have G:=(zmk (X:=X) hr.units).run pins s σ H x y v u a b Q I rx ry ra rb;have S:=(zf7 (X:=X) (f:=λ_ _=>true) false .Eq zhz).run pins s σ H x y v u a b Q I rx ry ra rb
 cases a <;> cases b <;> first|exact S q|exact G q⟩
theorem zn4{k:Nat}(hr:Room k X.A):OpD X (compareOp .NotEq) gNe:=⟨λpins s σ H x y v u a b Q I rx ry ra rb q=>by
 have G:=(zml (X:=X) hr.units).run pins s σ H x y v u a b Q I rx ry ra rb;have S:=(zf7 (X:=X) (f:=λ_ _=>true) true .NotEq zme).run pins s σ H x y v u a b Q I rx ry ra rb
 cases a <;> cases b <;> first|exact S q|exact G q⟩
def inD(x:D)(ys:List D):Bool:=ys.any λy=>PyData.eqv y x
def gIn(neg:Bool):DOp:=λa b Q=>match b with
 |.list ys=>Lay a/\Lay (.list ys)/\Q (.bool (if neg then !inD a ys else inD a ys))
 |.tuple ys=>Lay a/\Lay (.tuple ys)/\Q (.bool (if neg then !inD a ys else inD a ys))
 |_=>False
theorem Lay.all{xs:List D}(h:Lay (.list xs)):PyData.canLayAll0 xs=true:=by simpa[PyData.canLay0]using h.can
theorem Lay.allT{xs:List D}(h:Lay (.tuple xs)):PyData.canLayAll0 xs=true:=by simpa[PyData.canLay0]using h.can
theorem zrw{k:Nat}(hr:Room k X.A):OpD X (compareOp .In) (gIn false):=⟨λpins s σ H x y v u a b Q I rx ry ra rb q=>by
 have hu:=hr.un
 cases b with
 |list ys=>
  obtain⟨as,e1⟩:=ra.reads I rx q.1.can;obtain⟨bs,e2⟩:=rb.reads I ry q.2.1.can;have:=q.1.deep;exact SeqAt.in_list_reads e2 e1 q.2.1.all q.1.can (by omega) ⟨.bl _,H,_,I,rfl,Same.refl _,.bl,q.2.2⟩
 |tuple ys=>
  obtain⟨as,e1⟩:=ra.reads I rx q.1.can;obtain⟨bs,e2⟩:=rb.reads I ry q.2.1.can;have:=q.1.deep;exact SeqAt.in_tuple_reads e2 e1 q.2.1.allT q.1.can (by omega) ⟨.bl _,H,_,I,rfl,Same.refl _,.bl,q.2.2⟩
 |_=>exact q.elim⟩
end
structure CallD(X:Cx)(f:Value)(g:List D->(D->Prop)->Prop):Prop where
 run:∀(pins:List (Addr×Obj)) (s:Shared) (σ:St) (H:Hp) (vs:List V) (us:List Value) (ds:List D) (Q:D->Prop),Inv X pins σ H s->Vals vs us->RepTs X.K H ds vs->g ds Q->wpAny (model X.prog X.w) X.A (call f us) (DEnd X pins σ H Q) X.xe s
structure CallF(X:Cx)(f:Value)(g:List D->(List D->Prop)->Prop):Prop where
 run:∀(pins:List (Addr×Obj)) (s:Shared) (σ:St) (H:Hp) (vs:List V) (us:List Value) (ds:List D) (Q:List D->Prop),Inv X pins σ H s->Vals vs us->RepTs X.K H ds vs->g ds Q->wpAny (model X.prog X.w) X.A (call f us) (zf5 X pins σ H Q) X.xe s
def dCB(g:List D->(D->Prop)->Prop)(t:DTF):DTE:=λσ Q=>t σ λds=>g ds Q
section
variable {X:Cx}{f:Value}{g:List D->(D->Prop)->Prop}{gf:List D->(List D->Prop)->Prop}{e:Expr}{es:List Expr}{t:DTF}{x:Str}{p pos:Pos}
theorem CallD.of{r:List V->Hp->VK->Prop}(h:xm X f r)(k:∀vs H ds Q,RepTs X.K H ds vs->g ds Q->r vs H (λv H'=>∃d,Same H H'/\Rep X.K H' d v/\Q d)):CallD X f g :=
 ⟨λpins s σ H vs us ds Q I rv rd q=>thn (h pins s σ H vs us _ I rv (k vs H ds Q rd q)) λw s' zq93=>by obtain⟨z,H',I',rz,d,sm,rp,qd⟩:=zq93;exact⟨z,H',d,I',rz,sm,rp,qd⟩⟩
theorem CallF.of{r:List V->Hp->VK->Prop}(h:xm X f r)(k:∀vs H ds Q,RepTs X.K H ds vs->gf ds Q->r vs H (λv H'=>∃p vs xs,v=.ref p/\Same H H'/\H p=none/\H' p=some (.lst vs)/\Reps X.K H' xs vs/\Q xs)):CallF X f gf :=
 ⟨λpins s σ H vs us ds Q I rv rd q=>thn (h pins s σ H vs us _ I rv (k vs H ds Q rd q)) λw s' zq93=>by obtain⟨z,H',I',rz,p,ws,xs,ez,sm,n,e,rp,qd⟩:=zq93;exact⟨p,H',ws,xs,by subst ez;exact rz,I',sm,n,e,rp,qd⟩⟩
theorem CallD.cr(h:CallD X f g):xm X f (λvs H Q=>∃ds QD,RepTs X.K H ds vs/\g ds QD/\∀v H' d,Same H H'->Rep X.K H' d v->QD d->Q v H') :=
 λpins s σ H vs us Q I rv zq2=>by obtain⟨ds,QD,rd,q,k⟩:=zq2;exact thn (h.run pins s σ H vs us ds QD I rv rd q) λw s' zq0=>by obtain⟨z,H',d,I',rz,sm,rp,qd⟩:=zq0;exact⟨z,H',I',rz,k z H' d sm rp qd⟩
theorem yr{id:String}(hc:CallD X (.builtin id) g)(hg:Gl X x)(hm:X.mg x=none)(hv:bootBuiltins x=some (.builtin id))(ha:DAv X (e::es) t)(hn:x ≠ "__name__" := by decide)(hdb:(x ==("__debug__" : Str))=false:=by decide)
  (he:starEach (e::es) X.env=(false,eval e X.env)::starEach es X.env:=by rfl) (hpl:(backTo pos (starEach es X.env)).any (·.1)=false:=by rfl):DE X (.Call (.Name x p) (e::es) [] pos) (dCB g t) :=
 DE.of (wb hc.cr hg hm hv ha.pa hn hdb he hpl) λσ H H₀ σD QD ok q=>⟨H₀,σD,_,ok,q,λvs H1 ds s1 r1 q1=>⟨ds,_,r1,q1,λv H' d s2 rp qd=>⟨d,s1.trans s2,rp,qd⟩⟩⟩
theorem zb3{id:String}(hc:CallD X (.type id) g)(hg:Gl X x)(hm:X.mg x=none)(hv:bootBuiltins x=some (.type id))(ha:DAv X (e::es) t)(hn:x ≠ "__name__" := by decide)(hdb:(x ==("__debug__" : Str))=false:=by decide)
  (he:starEach (e::es) X.env=(false,eval e X.env)::starEach es X.env:=by rfl) (hpl:(backTo pos (starEach es X.env)).any (·.1)=false:=by rfl):DE X (.Call (.Name x p) (e::es) [] pos) (dCB g t) :=
 DE.of (zbx hc.cr hg hm hv ha.pa hn hdb he hpl) λσ H H₀ σD QD ok q=>⟨H₀,σD,_,ok,q,λvs H1 ds s1 r1 q1=>⟨ds,_,r1,q1,λv H' d s2 rp qd=>⟨d,s1.trans s2,rp,qd⟩⟩⟩
theorem RepTs.one{K:PySem.W.Frag}{H:Hp}{d:D}{vs:List V}(h:RepTs K H [d] vs):∃v,vs = [v]/\RepT K H d v:=by
 cases h with
 |cons r t=>cases t;exact⟨_,rfl,r⟩
theorem RepTs.two{K:PySem.W.Frag}{H:Hp}{d e:D}{vs:List V}(h:RepTs K H [d,e] vs):∃v w,vs = [v,w]/\RepT K H d v/\RepT K H e w:=by
 cases h with
 |cons r t=>cases t with
  |cons r2 t=>cases t;exact⟨_,_,rfl,r,r2⟩
def zn5:List D->(D->Prop)->Prop
 |[.str x],Q=>x.length<=sizeLine/\Q (.int x.length)
 |[.list xs],Q=>Q (.int xs.length)
 |[.tuple xs],Q=>Q (.int xs.length)
 |_,_=>False
theorem jy:CallD X (.builtin "len") zn5:=CallD.of zh0 λvs H ds Q rd q=>by
 match ds,q,rd with
 |[.str x],q,rd=>
  obtain⟨v,rfl,r⟩:=rd.one
  cases r.str;exact⟨_,x.length,rfl,⟨q.1,rfl⟩,_,Same.refl _,.int,q.2⟩
 |[.list xs],q,rd=>
  obtain⟨v,rfl,r⟩:=rd.one;obtain⟨a,vs,rfl,h,r⟩:=r.list.sq;exact⟨_,xs.length,rfl,.inl ⟨vs,h,r.length⟩,_,Same.refl _,.int,q⟩
 |[.tuple xs],q,rd=>
  obtain⟨v,rfl,r⟩:=rd.one;obtain⟨a,vs,rfl,h,r⟩:=r.tuple;exact⟨_,xs.length,rfl,.inr ⟨vs,h,r.length⟩,_,Same.refl _,.int,q⟩
def zn6:List D->(D->Prop)->Prop
 |[.int i,.int j],Q=>Q (.int (min i j))
 |_,_=>False
def zn7:List D->(D->Prop)->Prop
 |[.int i,.int j],Q=>Q (.int (max i j))
 |_,_=>False
theorem zqn(hc:X.calm=true):CallD X (.builtin "min") zn6:=CallD.of (zgw hc) λvs H ds Q rd q=>by
 match ds,q,rd with
 |[.int i,.int j],q,rd=>
  obtain⟨v,w,rfl,r1,r2⟩:=rd.two
  cases r1.int
  cases r2.int;refine⟨i,j,rfl,_,Same.refl _,.int,?_⟩;have e:(if j<i then j else i)=min i j:=by split <;> omega
  rw[e];exact q
theorem zqo(hc:X.calm=true):CallD X (.builtin "max") zn7:=CallD.of (zgv hc) λvs H ds Q rd q=>by
 match ds,q,rd with
 |[.int i,.int j],q,rd=>
  obtain⟨v,w,rfl,r1,r2⟩:=rd.two
  cases r1.int
  cases r2.int;refine⟨i,j,rfl,_,Same.refl _,.int,?_⟩;have e:(if j > i then j else i)=max i j:=by split <;> omega
  rw[e];exact q
def zn8:List D->(D->Prop)->Prop
 |[.int i],Q=>Q (.int i)
 |[.bool b],Q=>Q (.int (if b then 1 else 0))
 |_,_=>False
theorem zmm:CallD X (.type "int") zn8:=CallD.of zgx λvs H ds Q rd q=>by
 match ds,q,rd with
 |[.int i],q,rd=>
  obtain⟨v,rfl,r⟩:=rd.one
  cases r.int;exact .inl ⟨i,rfl,_,Same.refl _,.int,q⟩
 |[.bool i],q,rd=>
  obtain⟨v,rfl,r⟩:=rd.one
  cases r.bool;exact .inr ⟨i,rfl,_,Same.refl _,.int,q⟩
def xp:List D->Option (List Bool)
 |[]=>some []
 |.bool i::r=>(xp r).map (i :: ·)
 |_::_=>none
theorem zey(ns:List Bool):xp (ns.map PyData.bool)=some ns:=by
 induction ns with
 |nil=>rfl
 |cons n ns ih=>simp[xp,ih]
theorem wg{K:PySem.W.Frag}{H:Hp}:∀{xs:List D}{vs:List V}{ns:List Bool},Reps K H xs vs->xp xs=some ns->vs=ns.map V.bl
 |[],_,ns,r,e=>by cases r;simp[xp]at e;subst e;rfl
 |x::xs,_,ns,r,e=>by
  cases r with
  |cons r t=>
   cases x with
   |bool i=>
    simp only[xp,Option.map_eq_some_iff]at e;obtain⟨ms,e1,rfl⟩:=e
    cases r;rw[wg t e1];rfl
   |_=>simp[xp]at e
def zn9:List D->(D->Prop)->Prop
 |[.list xs],Q=>∃ns,xp xs=some ns/\Q (.bool (ns.all id))
 |_,_=>False
theorem zqp(hc:X.calm=true):CallD X (.builtin "all") zn9:=CallD.of (zif hc) λvs H ds Q rd q=>by
 match ds,q,rd with
 |[.list xs],q,rd=>
  obtain⟨v,rfl,r⟩:=rd.one;obtain⟨a,vs,rfl,h,r⟩:=r.list.sq;obtain⟨ns,e,q⟩:=q
  cases wg r e;exact⟨a,ns,rfl,h,_,Same.refl _,.bl,q⟩
def isD:String->D->Bool
 | "int",.int _=>true
 | "int",.bool _=>true
 | "bool",.bool _=>true
 | "str",.str _=>true
 | "list",.list _=>true
 | "tuple",.tuple _=>true
 | "dict",.dict _=>true
 |_,_=>false
def tyD:D->String
 |.none=> "NoneType"
 |.bool _=> "bool"
 |.int _=> "int"
 |.str _=> "str"
 |.list _=> "list"
 |.tuple _=> "tuple"
 |.dict _=> "dict"
theorem zez{pins:List (Addr×Obj)}{σ:St}{H:Hp}{s:Shared}{A:Around}{E:Value->Shared->Prop}{Q:Value->Shared->Prop}{c:Value}{b:Bool}{d:D}{v:V}{u:Value}(I:Inv X pins σ H s)(rp:RepT X.K H d v)(ru:RelV v u)(e:PySem.W.kitOne X.K (.type (tyD d)) c=some b)
  (h:∀tk,Q (.bool b) { s with toks:=tk }):wpAny (model X.prog X.w) A (call (.builtin "isinstance") [u,c]) Q E s:=by
 rcases rp with rp |⟨xs,rfl,a,vs,rfl,hr,_⟩
 ·cases rp with
  |non=>cases ru;exact PySem.W.kia_one PySem.W.kitx_none I.kIn True.intro e (λz=>nomatch z) h
  |bl=>cases ru;exact PySem.W.kia_one PySem.W.kitx_bool I.kIn True.intro e (λz=>nomatch z) h
  |int=>obtain⟨t,rfl⟩:=ru;exact PySem.W.kia_one PySem.W.kitx_int I.kIn True.intro e (λz=>nomatch z) h
  |str=>obtain⟨t,rfl⟩:=ru;exact PySem.W.kia_one PySem.W.kitx_str I.kIn True.intro e (λz=>nomatch z) h
  |tup q r=>
   cases ru;obtain⟨its,_,⟨o,h1,h2,_⟩,_⟩:=I.tuple q;exact PySem.W.kia_one PySem.W.kitx_tuple I.kIn ⟨o,h1,h2⟩ e (λz=>nomatch z) h
  |lst q r=>
   cases ru;obtain⟨_,_,_,n,_,h1⟩:=I.hok _ _ q;exact PySem.W.kia_one PySem.W.kitx_list I.kIn ⟨_,h1,rfl⟩ e (λz=>nomatch z) h
  |dic q r=>
   cases ru;obtain⟨_,_,_,vs,_,o,es,ep,h1,h2,_⟩:=I.hok _ _ q;exact PySem.W.kia_one PySem.W.kitx_dict I.kIn ⟨o,h1,h2.1⟩ e (λz=>nomatch z) h
 ·cases ru;obtain⟨_,_,n,_,h1⟩:=hr.ok I.hok;exact PySem.W.kia_one PySem.W.kitx_list I.kIn ⟨_,h1,rfl⟩ e (λz=>nomatch z) h
def dIs(n:String)(t:DTE):DTE:=λσ Q=>t σ λd=>Q (.bool (isD n d))
theorem ze0{n:String}{ta:DTE}{x2:Str}{p2:Pos}(hk:∀d:D,PySem.W.kitOne X.K (.type (tyD d)) (.type n)=some (isD n d))(hg:Gl X "isinstance")(hm:X.mg "isinstance" = none)(hv:bootBuiltins "isinstance" = some (.builtin "isinstance"))(ha:DV X e ta)
  (hg2:Gl X x2) (hm2:X.mg x2=none) (hv2:bootBuiltins x2=some (.type n)) (hn2:x2 ≠ "__name__" := by decide) (hdb2:(x2 ==("__debug__" : Str))=false:=by decide)
  (he:starEach (e :: [.Name x2 p2]) X.env=(false,eval e X.env)::starEach [.Name x2 p2] X.env:=by rfl) (he2:starEach [.Name x2 p2] X.env=(false,eval (.Name x2 p2) X.env)::starEach [] X.env:=by rfl) (hpl:(backTo pos (starEach [.Name x2 p2] X.env)).any (·.1)=false:=by rfl):DE X (.Call (.Name "isinstance" p) [e,.Name x2 p2] [] pos) (dIs n ta):=by
 have hc:xm X (.builtin "isinstance") (λvs H Q=>∃d v,vs = [v,.ty n]/\RepT X.K H d v/\Q (.bl (isD n d)) H):=λpins s σ H xs us Q I rv zq28=>by
  obtain⟨d,v,e,r,q⟩:=zq28;subst e;obtain⟨u,w,rfl,r1,r2⟩:=rv.two
  cases r2;exact zez I r r1 (hk d) λtk=>⟨.bl (isD n d),H,I.tok tk,rfl,q⟩
 refine DE.of (wb hc hg hm hv (zn ha.pe (zn (v3 (v:=.ty n) hg2 hm2 hv2 rfl hn2 hdb2) ye he2) he) (by decide) (by decide) he hpl) λσ H H₀ σD QD ok q=>?_;exact⟨H₀,σD,_,ok,q,λv H1 d s1 r1 q1=>⟨d,v,rfl,r1,_,s1,.bl,q1⟩⟩
theorem zmn{K:PySem.W.Frag}(d:D):PySem.W.kitOne K (.type (tyD d)) (.type "str")=some (isD "str" d):=by cases d <;> rfl
theorem zoa{K:PySem.W.Frag}(d:D):PySem.W.kitOne K (.type (tyD d)) (.type "list")=some (isD "list" d):=by cases d <;> rfl
variable {a b:Expr}{ta tb:DTE}
def gIx:DOp
 |.list xs,.int i,Q=>∃d,atI xs i=some d/\Q d
 |.tuple xs,.int i,Q=>∃d,atI xs i=some d/\Q d
 |.str x,.int i,Q=>x.length<=sizeLine/\∃c,atI x.cps.toList i=some c/\Q (.str ⟨#[c]⟩)
 |_,_,_=>False
theorem zf8{K:PySem.W.Frag}{H:Hp}{xs:List D}{vs:List V}{i:Int}{d:D}(r:Reps K H xs vs)(h:atI xs i=some d):∃v,atI vs i=some v/\Rep K H d v:=by
 unfold atI at h ⊢;rw[<-r.length]
 cases e:ixN xs.length i with
 |none=>rw[e]at h;cases h
 |some j=>
  rw[e]at h;exact r.get h
theorem yz(ha:DV X a ta)(hb:DE X b tb)(hs:kj b):DE X (.Subscript a b pos) (dOp gIx ta tb) :=
 DE.of (wx zng ha.pe hb.pe hs) λσ H H₀ σD QD ok q=>⟨H₀,σD,_,ok,q,λv H1 d s1 r1 q1=>⟨H₀,σD,_,ok.after s1,q1,λw H2 d2 s2 r2 q2=>by
  have r1:=r1.same s2;have sm:=s1.trans s2
  cases d2 with
  |int i=>
   cases r2
   cases d with
   |list xs=>
    obtain⟨l,vs,rfl,hl,r⟩:=r1.list.sq;obtain⟨d,e,q⟩:=q2;obtain⟨x,e1,e2⟩:=zf8 r e;exact .inl ⟨l,vs,i,x,rfl,rfl,hl,e1,d,sm,e2,q⟩
   |tuple xs=>
    obtain⟨l,vs,rfl,hl,r⟩:=r1.tuple;obtain⟨d,e,q⟩:=q2;obtain⟨x,e1,e2⟩:=zf8 r e;exact .inr (.inl ⟨l,vs,i,x,rfl,rfl,hl,e1,d,sm,e2,q⟩)
   |str x=>
    cases r1.str;obtain⟨hz,c,e,q⟩:=q2;exact .inr (.inr ⟨x,i,c,rfl,rfl,hz,e,_,sm,.str,q⟩)
   |_=>exact q2.elim
  |_=>cases d <;> exact q2.elim⟩⟩
abbrev DTO:=DSt->(Option Int->Prop)->Prop
structure DO(X:Cx)(e:Option Expr)(t:DTO):Prop where
 po:PO X e (λσ H Q=>∃H₀ σD QD,DOk X.K H₀ H σD σ/\t σD QD/\∀o H',Same H H'->QD o->Q o H')
def zcl:DTO:=λ_ Q=>Q none
def zin(t:DTE):DTO:=λσ Q=>t σ λd=>match d with
 |.int i=>Q (some i)
 |_=>False
theorem zab:DO X none zcl:=⟨λpins s σ H Q I zq40=>by obtain⟨H₀,σD,QD,ok,q,k⟩:=zq40;exact zkx pins s σ H Q I (k none H (Same.refl _) q)⟩
theorem v5(h:DE X a ta):DO X (some a) (zin ta):=⟨λpins s σ H Q I ⟨H₀,σD,QD,ok,q,k⟩=>zky h.pe pins s σ H Q I ⟨H₀,σD,_,ok,q,λv H1 d s1 r1 q1=>by
 cases d with
 |int i=>cases r1;exact⟨i,rfl,k _ _ s1 q1⟩
 |_=>exact q1.elim⟩⟩
def zan(xs:List D)(lo hi:Option Int):List D:=(xs.drop (HT.sIx xs.length 0 lo)).take (HT.sIx xs.length xs.length hi-HT.sIx xs.length 0 lo)
theorem Reps.cut{K:PySem.W.Frag}{H:Hp}{xs:List D}{vs:List V}(r:Reps K H xs vs)(lo hi:Option Int):Reps K H (zan xs lo hi) (zg0 vs lo hi):=by
 unfold zan zg0;rw[<-r.length];exact(r.drop _).take _
variable {lo hi:Option Expr}{tl th:DTO}{p2:Pos}
def zcm(i:Nat)(tl th:DTO):DTF:=λσ Q=>match σ[i]? with
 |some (some (.scr ns))=>tl σ λl=>th σ λu=>Q ((zan (ns.map PyData.int) l u))
 |_=>False
theorem zob(i:Nat){x:Str}{pos':Pos}(hl:DO X lo tl)(hu:DO X hi th)(hN:X.N[i]?=some x:=by rfl)(hv:Vis X.env.scope x:=by first|exact Or.inl rfl|exact Or.inr (Or.inl rfl)|exact Or.inr (Or.inr rfl))(hd:(x ==("__debug__" : Str))=false:=by decide)
  (hcd:(x ==("__classdict__" : Str))=false:=by decide):DF X (.Subscript (.Name x pos') (.Slice lo hi none p2) pos) (zcm i tl th) :=
 DF.of (zdd zkz (yg (i:=i) hN hv hd hcd) hl.po hu.po) λσ H H₀ σD QD ok q=>by
  unfold zcm at q
  split at q
  ·next ns e=>
   obtain⟨b,e1,hb⟩:=ok.scr e;exact⟨_,e1,H₀,σD,_,ok,q,λl H2 s2 q2=>⟨H₀,σD,_,ok.after s2,q2,λu H3 s3 q3=>⟨b,_,rfl,s3.seq (s2.seq hb),λp hp=>⟨p,_,_,rfl,(s2.trans s3).trans (zt hp _),(s2.trans s3).free hp,ze,Reps.ints.cut l u,q3⟩⟩⟩⟩
  ·exact q.elim
def zac(i:Nat):DTE:=λσ Q=>match σ[i]? with
 |some (some (.scr ns))=>Q (.int ns.length)
 |_=>False
theorem zg5(i:Nat){x:Str}{pos':Pos}(hg:Gl X "len")(hm:X.mg "len" = none)(hN:X.N[i]?=some x:=by rfl)(hv:Vis X.env.scope x:=by first|exact Or.inl rfl|exact Or.inr (Or.inl rfl)|exact Or.inr (Or.inr rfl))(hd:(x ==("__debug__" : Str))=false:=by decide)
  (hcd:(x ==("__classdict__" : Str))=false:=by decide):DE X (.Call (.Name "len" p) [.Name x pos'] [] pos) (zac i) :=
 DE.of (wb zcj hg hm PySem.boot_len (zn (yg (i:=i) hN hv hd hcd) ye)) λσ H H₀ σD QD ok q=>by
  unfold zac at q
  split at q
  ·next ns e=>
   obtain⟨b,e1,hb⟩:=ok.scr e;exact⟨_,e1,b,_,rfl,.inl hb,_,Same.refl _,.int,by rw[List.length_map];exact q⟩
  ·exact q.elim
def zcn(i:Nat)(tb:DTE):DTE:=λσ Q=>match σ[i]? with
 |some (some (.scr ns))=>tb σ λd=>match d with
  |.int k=>∃n,atI ns k=some n/\Q (.int n)
  |_=>False
 |_=>False
theorem zld{α β:Type}(f:α->β)(xs:List α)(i:Int):atI (xs.map f) i=(atI xs i).map f:=by
 unfold atI;rw[List.length_map]
 cases ixN xs.length i with
 |none=>rfl
 |some j=>simp
theorem zio(i:Nat){x:Str}{pos':Pos}(hb:DE X b tb)(hs:kj b)(hN:X.N[i]?=some x:=by rfl)(hv:Vis X.env.scope x:=by first|exact Or.inl rfl|exact Or.inr (Or.inl rfl)|exact Or.inr (Or.inr rfl))(hd:(x ==("__debug__" : Str))=false:=by decide)
  (hcd:(x ==("__classdict__" : Str))=false:=by decide):DE X (.Subscript (.Name x pos') b pos) (zcn i tb) :=
 DE.of (wx ix_list (yg (i:=i) hN hv hd hcd) hb.pe hs) λσ H H₀ σD QD ok q=>by
  unfold zcn at q
  split at q
  ·next ns e=>
   obtain⟨b,e1,hb⟩:=ok.scr e;refine⟨_,e1,H₀,σD,_,ok,q,λw H2 d2 s2 r2 q2=>?_⟩
   cases d2 with
   |int k=>
    cases r2;obtain⟨n,en,q⟩:=q2;exact⟨b,_,k,.int n,rfl,rfl,s2.seq hb,by rw[zld,en];rfl,_,s2,.int,q⟩
   |_=>exact q2.elim
  ·exact q.elim
end
structure ItOk(K:PySem.W.Frag)(Kp:Hp->Hp->Prop)(J:It)(H1:Hp)(ds:List D):Prop where
 go:∀H i d,Kp H1 H->ds[i]?=some d->J.go i H/\∀x H',J.yld i H x H'->Same H H'/\Rep K H' d x
 stop:∀H,Kp H1 H->J.stop ds.length H
theorem ItOk.weak{K:PySem.W.Frag}{J:It}{H1:Hp}{ds:List D}(h:ItOk K Pers J H1 ds):ItOk K Same J H1 ds:=⟨λH i d s=>h.go H i d s.pers,λH s=>h.stop H s.pers⟩
def cnI(K:PySem.W.Frag)(Kp:Hp->Hp->Prop)(t:DTF):TI:=λσ H R=>∃H₀ σD QD,DOk K H₀ H σD σ/\t σD QD/\∀J H1 ds,Same H H1->ItOk K Kp J H1 ds->QD ds->R J H1
structure DI(X:Cx)(tg iter:Expr)(t:DTF):Prop where
 pi:PI X tg iter (cnI X.K Pers t)
structure DIw(X:Cx)(tg iter:Expr)(t:DTF):Prop where
 pi:PI X tg iter (cnI X.K Same t)
section
variable {X:Cx}{tg iter e:Expr}{t:DTF}{te:DTE}{p pos:Pos}
theorem DI.w(h:DI X tg iter t):DIw X tg iter t:=⟨λpins s σ H R I zq56=>by obtain⟨H₀,σD,QD,ok,q,k⟩:=zq56;exact h.pi pins s σ H R I ⟨H₀,σD,QD,ok,q,λJ H1 ds s1 o qd=>k J H1 ds s1 o.weak qd⟩⟩
theorem zoc{l:Expr}{tl:TE}(hl:PE X l tl):PI X tg l (λσ H R=>tl σ H λx H1=>(∃a xs,x=.ref a/\SqL X.K H1 a xs/\R (Itl X.K a) H1)\/∃a xs,x=.ref a/\SqT X.K H1 a xs/\R (Itt X.K a) H1):=by
 intro pins s σ H R I h;refine thn (hl pins s σ H _ I h) λv s1 zr22=>?_;obtain⟨x,H1,I1,r1,q1⟩:=zr22;rcases q1 with⟨a,xs,e,hq,q⟩ |⟨a,xs,e,hq,q⟩
 ·subst e
  cases r1;obtain⟨its,rv,p,hz⟩:=I1.list hq;refine wpAny_pyIter_list p.isList ?_;refine⟨s1.heap.objs.size,[s1.heap.objs.size],_,_,H1,rfl,I1.kept (t':=s1.toks) λb o e=>Heap.get?_push_of_some _ e,zgs a _,⟨_,Heap.get?_push_size _ rfl,rfl,rfl⟩,λb hb=>?_,q⟩;have e:b=s1.heap.objs.size:=by simpa using hb
  subst e;exact I1.fpOk (Nat.le_refl _) (I1.hok.fresh (Nat.le_refl _))
 ·subst e
  cases r1;obtain⟨its,rv,p,hz⟩:=I1.tuple hq;refine wpAny_pyIter_tuple (show s1.heap.IsTuple a its.toArray from p) ?_;refine⟨s1.heap.objs.size,[s1.heap.objs.size],_,_,H1,rfl,I1.kept (t':=s1.toks) λb o e=>Heap.get?_push_of_some _ e,zeg a _,⟨_,Heap.get?_push_size _ rfl,rfl,rfl⟩,λb hb=>?_,q⟩;have e:b=s1.heap.objs.size:=by simpa using hb
  subst e;exact I1.fpOk (Nat.le_refl _) (I1.hok.fresh (Nat.le_refl _))
def ziq(te:DTE):DTF:=λσ Q=>te σ λd=>match d with
 |.list xs=>Q xs
 |.tuple xs=>Q xs
 |_=>False
theorem zod{K:PySem.W.Frag}{Kp:Hp->Hp->Prop}{H1:Hp}{a:Addr}{xs:List D}{vs:List V}(kp:∀H,Kp H1 H->SqL K H a vs/\Reps K H xs vs):ItOk K Kp (Itl K a) H1 xs where
 go:=λH i d k e=>by
  obtain⟨hs,r⟩:=kp H k;obtain⟨v,e1,r1⟩:=r.get e;refine⟨⟨vs,v,hs,e1⟩,λx H' y=>?_⟩;obtain⟨rfl,y⟩:=y;have:=y vs hs;rw[e1]at this
  cases this;exact⟨Same.refl _,r1⟩
 stop:=λH k=>by
  obtain⟨hs,r⟩:=kp H k;exact⟨vs,hs,by rw[r.length];exact Nat.le_refl _⟩
theorem zoe{K:PySem.W.Frag}{Kp:Hp->Hp->Prop}{H1:Hp}{a:Addr}{xs:List D}{vs:List V}(kp:∀H,Kp H1 H->SqT K H a vs/\Reps K H xs vs):ItOk K Kp (Itt K a) H1 xs where
 go:=λH i d k e=>by
  obtain⟨hs,r⟩:=kp H k;obtain⟨v,e1,r1⟩:=r.get e;refine⟨⟨vs,v,hs,e1⟩,λx H' y=>?_⟩;obtain⟨rfl,y⟩:=y;have:=y vs hs;rw[e1]at this
  cases this;exact⟨Same.refl _,r1⟩
 stop:=λH k=>by
  obtain⟨hs,r⟩:=kp H k;exact⟨vs,hs,by rw[r.length];exact Nat.le_refl _⟩
theorem Pers.sqF{K:PySem.W.Frag}{H H':Hp}{a:Addr}{o:Obj}{vs:List V}(p:Pers H H')(h:H a=some (.frz o (.lst vs))):SqL K H' a vs:=.inl (.inr ⟨o,p _ _ h rfl⟩)
theorem zir(h:DE X e te):DI X tg e (ziq te):=⟨λpins s σ H R I ⟨H₀,σD,QD,ok,q,k⟩=>zoc h.pe pins s σ H R I ⟨H₀,σD,_,ok,q,λv H1 d s1 r1 q1=>by
 cases d with
 |list xs=>
  cases r1 with
  |lst hf r=>exact .inl ⟨_,_,rfl,.inl (.inr ⟨_,hf⟩),k _ _ xs s1 (zod λH' pr=>⟨pr.sqF hf,r.mono pr⟩) q1⟩
 |tuple xs=>
  cases r1 with
  |tup hf r=>exact .inr ⟨_,_,rfl,hf,k _ _ xs s1 (zoe λH' pr=>⟨pr.sqT hf,r.mono pr⟩) q1⟩
 |_=>exact q1.elim⟩⟩
def xh(lo:Int)(n:Nat):List D:=(List.range n).map λi=>.int (lo+(i:Nat))
theorem zof{K:PySem.W.Frag}{Kp:Hp->Hp->Prop}{H1:Hp}(lo:Int)(n:Nat):ItOk K Kp (Itr lo n) H1 (xh lo n) where
 go:=λH i d k e=>by
  have hi:i<n:=by have:=(List.getElem?_eq_some_iff.mp e).1;simpa[xh]using this
  refine⟨hi,λx H' y=>?_⟩;obtain⟨rfl,rfl⟩:=y;refine⟨Same.refl _,?_⟩;simp[xh,List.getElem?_map,List.getElem?_range hi]at e;subst e;exact .int
 stop:=λH k=>by
  show n<=(xh lo n).length;simp[xh]
def zco(ta:DTF):DTF:=λσ Q=>ta σ λds=>match ds with
 |[.int j]=>(-(2 ^ 62)<=j/\j<2 ^ 62)/\Q (xh 0 j.toNat)
 |_=>False
variable {a b:Expr}
theorem jj(hg:Gl X "range")(hm:X.mg "range" = none)(ha:DA X [a] t)(hs:starEach [a] X.env = [(false,eval a X.env)]:=by rfl):DI X tg (.Call (.Name "range" p) [a] [] pos) (zco t) :=
 ⟨λpins s σ H R I ⟨H₀,σD,QD,ok,q,k⟩=>zgt hg hm ha.pa hs pins s σ H R I ⟨H₀,σD,_,ok,q,λvs H1 ds s1 r1 q1=>by
  match ds,r1,q1 with
  |[.int j],r1,q1=>
   cases r1 with
   |cons r t=>
    cases t
    cases r;exact⟨j,rfl,q1.1.1,q1.1.2,k _ _ _ s1 (zof 0 j.toNat) q1.2⟩⟩⟩
def va:Nat->List D->List D
 |_,[]=>[]
 |k,x::xs=>.tuple [.int k,x]::va (k+1) xs
theorem zb4:∀{xs:List D}{k i:Nat}{x:D},(va k xs)[i]?=some x->∃y,xs[i]?=some y/\x=.tuple [.int ((k+i:Nat):Int),y]
 |[],_,_,_,e=>by simp[va]at e
 |y::ys,k,0,x,e=>by simp[va]at e;subst e;exact⟨y,rfl,rfl⟩
 |y::ys,k,i+1,x,e=>by
  simp only[va,List.getElem?_cons_succ]at e;obtain⟨z,e1,e2⟩:=zb4 e;refine⟨z,by simpa using e1,?_⟩;rw[e2,show k+1+i=k+(i+1) by omega]
theorem zb5:∀(k:Nat) (xs:List D),(va k xs).length=xs.length
 |_,[]=>rfl
 |k,_::xs=>by simp[va,zb5 (k+1) xs]
abbrev DTG:=D->DSt->(DSt->Prop)->Prop
abbrev zcp:=List D->DSt->(DSt->Prop)->Prop
structure DG(X:Cx)(tg:Expr)(is:List Nat)(g:DTG):Prop where
 run:∀(pins:List (Addr×Obj)) (s:Shared) (σ:St) (H H₀:Hp) (σD:DSt) (v:V) (u:Value) (d:D) (Q:DSt->Prop),Inv X pins σ H s->DOk X.K H₀ H σD σ->RelV v u->Rep X.K H d v->g d σD Q ->
  wpAny (model X.prog X.w) X.A (assign tg X.env u) (λ_ s'=>∃σ' σD',Inv X pins σ' H s'/\DOk X.K H₀ H σD' σ'/\(∀j,j∉is->σ'[j]?=σ[j]?)/\Q σD') X.xe s
structure DGs(X:Cx)(ts:List Expr)(is:List Nat)(g:zcp):Prop where
 run:∀(pins:List (Addr×Obj)) (s:Shared) (σ:St) (H H₀:Hp) (σD:DSt) (vs:List V) (us:List Value) (ds:List D) (Q:DSt->Prop),Inv X pins σ H s->DOk X.K H₀ H σD σ->Vals vs us->Reps X.K H ds vs->g ds σD Q ->
  wpAny (model X.prog X.w) X.A (assignInOrder ((assignEach ts X.env).map (·.2)) us) (λ_ s'=>∃σ' σD',Inv X pins σ' H s'/\DOk X.K H₀ H σD' σ'/\(∀j,j∉is->σ'[j]?=σ[j]?)/\Q σD') X.xe s
def ze1(i:Nat):DTG:=λd σ Q=>Q (σ.set i (some (.val d)))
theorem z9{i:Nat}{x:Str}(hN:X.N.Nodup)(hi:X.N[i]?=some x)(hx:Loc X.env.scope x)(hf:X.fn x=true\/X.env.scope.names.lookup x=some .local:=by first|exact .inl rfl|exact .inr rfl|assumption):DG X (.Name x pos) [i] (ze1 i) :=
 ⟨λpins s σ H H₀ σD v u d Q I ok r rp q=>wpAny_assign_Name (w5 I hN hi hx r (λs' I'=>⟨_,_,I',ok.setV rp i,λj hj=>List.getElem?_set_ne (λz=>hj (by simp[z])),q⟩) hf)⟩
def zis:zcp:=λds σ Q=>ds = []/\Q σ
def ze2(g:DTG)(gs:zcp):zcp:=λds σ Q=>match ds with
 |d::r=>g d σ λσ'=>gs r σ' Q
 |[]=>False
theorem km:DGs X [] [] zis:=⟨λpins s σ H H₀ σD vs us ds Q I ok r rp q=>by
 obtain⟨rfl,q⟩:=q
 cases rp
 cases r;exact assignInOrder_nil ⟨σ,σD,I,ok,λ_ _=>rfl,q⟩⟩
theorem yt{e:Expr}{es:List Expr}{i1 i2:List Nat}{g:DTG}{gs:zcp}(h1:DG X e i1 g)(h2:DGs X es i2 gs)
  (hs:(assignEach (e::es) X.env).map (·.2)=assign e X.env::(assignEach es X.env).map (·.2):=by rfl):DGs X (e::es) (i1++i2) (ze2 g gs):=⟨λpins s σ H H₀ σD vs us ds Q I ok r rp q=>by
 cases rp with
 |nil=>exact q.elim
 |cons rd rds=>
  cases r with
  |cons r rr=>
   rw[hs];refine assignInOrder_cons (thn (h1.run pins s σ H H₀ σD _ _ _ _ I ok r rd q) λ_ s1 zr48=>?_);obtain⟨σ1,σD1,I1,ok1,f1,q1⟩:=zr48;refine thn (h2.run pins s1 σ1 H H₀ σD1 _ _ _ Q I1 ok1 rr rds q1) λ_ s2 ⟨σ2,σD2,I2,ok2,f2,q2⟩=>⟨σ2,σD2,I2,ok2,λj hj=>?_,q2⟩
   rw[f2 j (λz=>hj (List.mem_append_right _ z)),f1 j (λz=>hj (List.mem_append_left _ z))]⟩
def zit(n:Nat)(gs:zcp):DTG:=λd σ Q=>match d with
 |.tuple xs=>xs.length=n/\gs xs σ Q
 |_=>False
theorem zog{es:List Expr}{k:Nat}{is:List Nat}{gs:zcp}{n:Nat}(hc:X.calm=true)(h:DGs X es is gs)(hn:(assignEach es X.env).length=n:=by rfl)(hst:(assignEach es X.env).findIdx? (·.1)=none:=by rfl):DG X (.Tuple es k pos) is (zit n gs):=⟨λpins s σ H H₀ σD v u d Q I ok r rp q=>by
 cases d with
 |tuple xs=>
  obtain⟨hl,q⟩:=q
  cases rp with
  |tup hq rr=>
   cases r;obtain⟨its,rv,ht,hz⟩:=I.tuple hq;refine assign_Tuple_tuple (I.ok.hd hc) ht (by simp[hn,<-hl,<-rv.length,rr.length]) hst λh' hx=>?_;have I1:Inv X pins σ H { s with heap:=h' }:=I.kept (t':=s.toks) λb o e=>hx b o (Nat.ne_of_lt (Heap.lt_size e)) e;exact h.run pins _ σ H H₀ σD _ _ xs Q I1 ok (by simpa using rv) rr q
 |_=>exact q.elim⟩
def lcD(f:D->(Option D->Prop)->Prop):List D->(List D->Prop)->Prop
 |[],Q=>Q []
 |d::ds,Q=>f d λo=>lcD f ds λys=>Q (match o with|some y=>y::ys|none=>ys)
def zdl:Option W->Option W
 |some (.own (.lst xs))=>some (.vw xs)
 |some (.own (.dct xs))=>some (.vd xs)
 |some (.own (.nst _ _))=>none
 |some (.own (.anc _ _))=>none
 |some (.own (.ins _ _))=>none
 |some (.own (.mix _))=>none
 |some (.own (.tk _))=>none
 |some (.own (.dcT _))=>none
 |some (.own (.insL _ _))=>none
 |some (.tmp _)=>none
 |w=>w
def ya(k:Nat)(js:List Nat)(σ:DSt):DSt:=List.replicate k none++js.map λj=>zdl (σ[j]?).join
def lcF(g:DTG)(tt:DTT)(te:DTE)(σ0:DSt):D->(Option D->Prop)->Prop:=λd k=>g d σ0 λσ2=>tt σ2 λb=>if b=true then te σ2 λy=>k (some y) else k none
def dLC(k:Nat)(js:List Nat)(ti:DTF)(g:DTG)(tt:DTT)(te:DTE):DTF:=λσ Q=>ti σ λds=>ds.length<=sizeLine/\lcD (lcF g tt te (ya k js σ)) ds Q
structure DTs(X:Cx)(ifs:List Expr)(t:DTT):Prop where
 pts:PTs X ifs (cnT X.K t)
def ziu:DTT:=λ_ Q=>Q true
theorem zf9:DTs X [] ziu:=⟨λpins s σ H Q I zq37=>by obtain⟨H₀,σD,QD,ok,q,k⟩:=zq37;exact zf3 pins s σ H Q I (k true H (Same.refl _) q)⟩
theorem zle{c:Expr}{t:DTT}(h:DT X c t):DTs X [c] t:=⟨zk3 h.pt⟩
theorem Slots.keepN{K:PySem.W.Frag}{H₀ H:Hp}{σD:DSt}{σ:St}{fp:List Addr}(h:Slots K H₀ H σD σ fp):∀{σ':St},σ'.length=σ.length->(∀j:Nat,σD[j]?=some Option.none\/σ'[j]?=σ[j]?)->Slots K H₀ H σD σ' fp:=by
 induction h with
 |nil=>intro σ' hl _;cases σ' with
  |nil=>exact .nil
  |cons _ _=>simp at hl
 |none t ih=>
  intro σ' hl k
  cases σ' with
  |nil=>simp at hl
  |cons x σ'=>exact .none (ih (by simpa using hl) λj=>by simpa using k (j+1))
 |val r t ih=>
  intro σ' hl k
  cases σ' with
  |nil=>simp at hl
  |cons x σ'=>
   have:=k 0;simp at this;subst this;exact .val r (ih (by simpa using hl) λj=>by simpa using k (j+1))
 |vw r t ih=>
  intro σ' hl k
  cases σ' with
  |nil=>simp at hl
  |cons x σ'=>
   have:=k 0;simp at this;subst this;exact .vw r (ih (by simpa using hl) λj=>by simpa using k (j+1))
 |vd r t ih=>
  intro σ' hl k
  cases σ' with
  |nil=>simp at hl
  |cons x σ'=>
   have:=k 0;simp at this;subst this;exact .vd r (ih (by simpa using hl) λj=>by simpa using k (j+1))
 |exc r t ih=>
  intro σ' hl k
  cases σ' with
  |nil=>simp at hl
  |cons x σ'=>
   have:=k 0;simp at this;subst this;exact .exc r (ih (by simpa using hl) λj=>by simpa using k (j+1))
 |scr r t ih=>
  intro σ' hl k
  cases σ' with
  |nil=>simp at hl
  |cons x σ'=>
   have:=k 0;simp at this;subst this;exact .scr r (ih (by simpa using hl) λj=>by simpa using k (j+1))
 |pen r t ih=>
  intro σ' hl k
  cases σ' with
  |nil=>simp at hl
  |cons x σ'=>
   have:=k 0;simp at this;subst this;exact .pen r (ih (by simpa using hl) λj=>by simpa using k (j+1))
 |tmp r t ih=>
  intro σ' hl k
  cases σ' with
  |nil=>simp at hl
  |cons x σ'=>
   have:=k 0;simp at this;subst this;exact .tmp r (ih (by simpa using hl) λj=>by simpa using k (j+1))
 |own r t ih=>
  intro σ' hl k
  cases σ' with
  |nil=>simp at hl
  |cons x σ'=>
   have:=k 0;simp at this;subst this;exact .own r (ih (by simpa using hl) λj=>by simpa using k (j+1))
theorem DOk.keepN{K:PySem.W.Frag}{H₀ H:Hp}{σD:DSt}{σ σ':St}(h:DOk K H₀ H σD σ)(hl:σ'.length=σ.length)(k:∀j:Nat,σD[j]?=some Option.none\/σ'[j]?=σ[j]?):DOk K H₀ H σD σ':=let ⟨s,fp,sl,r⟩:=h;⟨s,fp,sl.keepN hl k,r⟩
theorem DOk.block{K:PySem.W.Frag}{H₀ H:Hp}{σD:DSt}{σ:St}(h:DOk K H₀ H σD σ)(k:Nat)(js:List Nat):DOk K H H (ya k js σD) (yc k js σ):=by
 refine⟨Same.refl _,[],?_,List.nodup_nil,λa ha=>by cases ha⟩;have two:∀js:List Nat,Slots K H H (js.map λj=>zdl (σD[j]?).join) (js.map λj=>(σ[j]?).join) []:=by
  intro js
  induction js with
  |nil=>exact .nil
  |cons j js ih=>
   simp only[List.map_cons];have nn:∀v,Slots K H H (none::js.map λj=>zdl (σD[j]?).join) (v::js.map λj=>(σ[j]?).join) []:=λv=>.none ih
   cases e:σD[j]? with
   |none=>exact nn _
   |some o=>
    cases o with
    |none=>exact nn _
    |some w=>
     cases w with
     |val d=>
      obtain⟨v,e1,r⟩:=h.val e;rw[e1];exact .val r ih
     |vw xs=>
      obtain⟨v,e1,r⟩:=h.vw e;rw[e1];exact .vw r ih
     |vd xs=>
      obtain⟨v,e1,r⟩:=h.vd e;rw[e1];exact .vd r ih
     |exc xs=>
      obtain⟨v,e1,r⟩:=h.exc e;rw[e1];exact .exc r ih
     |scr ns=>
      obtain⟨a,e1,r⟩:=h.scr e;rw[e1];exact .scr r ih
     |pen=>
      obtain⟨a,e1,r⟩:=h.pen e;rw[e1];exact .pen r ih
     |tmp d=>exact nn _
     |own o=>
      cases o with
      |lst xs=>
       obtain⟨a,vs,e1,e2,r,_⟩:=h.ownL e;rw[e1];exact .vw ⟨a,vs,rfl,.inl e2,r⟩ ih
      |dct xs=>
       obtain⟨a,vs,e1,e2,r,_⟩:=h.ownD e;rw[e1];exact .vd ⟨a,vs,rfl,e2,r⟩ ih
      |nst xss ds=>exact nn _
      |anc _ _=>exact nn _
      |ins _ _=>exact nn _
      |mix _=>exact nn _
      |tk _=>exact nn _
      |dcT _=>exact nn _
      |insL _ _=>exact nn _
      |fzT xs=>
       obtain⟨s,fp,sl,nd,fr⟩:=id h;obtain⟨v,e1,f,⟨a,oo,vs,rfl,rfl,e2,r⟩,m⟩:=sl.get e;rw[e1];exact .own (f:=[]) ⟨a,oo,vs,rfl,rfl,e2,r⟩ ih
 unfold ya yc
 induction k with
 |zero=>exact two js
 |succ k ih=>exact .none ih
theorem ziv{g:DTG}{tt:DTT}{te:DTE}{k:Nat}{js is:List Nat}{σ:St}{σD:DSt}{H₀ H1:Hp}{J:It}{ds:List D}{QD:List D->Prop}{Dd:Addr}{gL:TG}(ok:DOk X.K H₀ H1 σD σ)(it:ItOk X.K Same J H1 ds)(hz:ds.length<=sizeLine)
  (hg:∀d v σ' H' Q (σ0:DSt),DOk X.K H1 H' σ0 σ'->Rep X.K H' d v->g d σ0 Q->gL v σ' H' (λσ2 H2=>H2=H'/\σ2.length=σ'.length/\(∀j,j∉is->σ2[j]?=σ'[j]?)/\∃σD2,DOk X.K H1 H' σD2 σ2/\Q σD2))
  (mono:∀v σ' H' (Q Q':St->Hp->Prop),(∀σ2 H2,Q σ2 H2->Q' σ2 H2)->gL v σ' H' Q->gL v σ' H' Q')
  (his:∀j∈is,j<k) (hn:H1 Dd=none) (q:lcD (lcF g tt te (ya k js σD)) ds QD) :
  zaa J Dd gL (cnT X.K tt) (cnE X.K te) (yc k js σ) H1 (λv H'=>∃a vs xs,v=.ref a/\Same H1 H'/\H1 a=none/\H' a=some (.lst vs)/\Reps X.K H' xs vs/\QD xs):=by
 have sub:∀{Q1:List D->Prop}{i:Nat}{d:D},ds[i]?=some d->lcD (lcF g tt te (ya k js σD)) (ds.drop i) Q1=lcF g tt te (ya k js σD) d (λo=>lcD (lcF g tt te (ya k js σD)) (ds.drop (i+1)) λys=>Q1 (match o with|some y=>y::ys|none=>ys)):=λ{Q1 i d} e=>by
  obtain⟨hi,e'⟩:=List.getElem?_eq_some_iff.mp e;rw[List.drop_eq_getElem_cons hi,e'];rfl
 refine⟨λi m σ' H'=>m=ds.length-i/\i<=ds.length/\Same H1 H'/\σ'.length=(yc k js σ).length/\(∀j,k<=j->σ'[j]?=(yc k js σ)[j]?)/\∃acc vs,H' Dd=some (.lst vs)/\Reps X.K H' acc vs/\acc.length<=i/\lcD (lcF g tt te (ya k js σD)) (ds.drop i) (λys=>QD (acc++ys)),
  ⟨ds.length,rfl,Nat.zero_le _,zt hn _,rfl,λ_ _=>rfl,[],[],ze,.nil,Nat.le_refl _,q⟩,?_⟩
 intro i m σ' H' zz;refine gg λG zk=>?_;obtain⟨zem,hi,sm,hl,fr,acc,vs,eD,ra,la,q1⟩:=zz;refine zk ?_;clear zk;subst zem;have ok1:DOk X.K H1 H' (ya k js σD) σ':=by
  refine DOk.keepN ((ok.block k js).after sm) hl λj=>?_
  by_cases hj:j<k
  ·left;unfold ya;rw[List.getElem?_append_left (by simpa using hj),List.getElem?_replicate,if_pos hj]
  ·right;exact fr j (by omega)
 by_cases hlt:i<ds.length
 ·have e:ds[i]?=some ds[i]:=by simp[hlt]
  obtain⟨go,yl⟩:=it.go H' i ds[i] sm e;refine .inr ⟨go,λx H2 y=>?_⟩;obtain⟨s2,r2⟩:=yl x H2 y;rw[sub e]at q1;refine mono _ _ _ _ _ (λσ2 H3 z=>?_) (hg ds[i] x σ' H2 _ _ (ok1.after s2) r2 q1);obtain⟨rfl,l2,f2,σD2,ok2,q2⟩:=z;have fr2:∀j,k<=j->σ2[j]?=(yc k js σ)[j]?:=λj hj=>by rw[f2 j (λz=>absurd (his j z) (by omega)),fr j hj]
  refine⟨H1,σD2,_,ok2,q2,λb H4 s4 q4=>?_⟩
  cases b with
  |true=>
   rw[if_pos rfl]at q4 ⊢;refine⟨H1,σD2,_,ok2.after s4,q4,λy H5 dy s5 r5 q5=>?_⟩;have eD5:=s5 _ _ (s4 _ _ (s2 _ _ eD));have ra5:=((ra.same s2).same s4).same s5;refine⟨vs,eD5,by rw[<-ra5.length];omega,ds.length-(i+1),by omega,rfl,hlt,?_,l2.trans hl,fr2,acc ++ [dy],vs ++ [y],ze,?_,by rw[List.length_append,List.length_singleton];omega,?_⟩
   ·exact Same.but (((sm.trans s2).trans s4).trans s5) hn But.write
   ·exact(ra5.append (.cons r5 .nil)).mono (xc eD5 rfl)
   ·simpa using q5
  |false=>
   rw[if_neg Bool.false_ne_true]at q4 ⊢;exact⟨ds.length-(i+1),by omega,rfl,hlt,(sm.trans s2).trans s4,l2.trans hl,fr2,acc,vs,s4 _ _ (s2 _ _ eD),(ra.same s2).same s4,by omega,by simpa using q4⟩
 ·have e:i=ds.length:=by omega
  subst e;rw[List.drop_length]at q1;refine .inl ⟨it.stop H' sm,Dd,vs,acc,rfl,sm,hn,eD,ra,?_⟩;have:lcD (lcF g tt te (ya k js σD)) [] (λys=>QD (acc++ys)):=q1;simpa[lcD]using this
def cnG(K:PySem.W.Frag)(is:List Nat)(g:DTG):TG:=λv σ H Q=>∃H₀ σD d QD,DOk K H₀ H σD σ/\Rep K H d v/\g d σD QD/\∀σ' σD',σ'.length=σ.length->DOk K H₀ H σD' σ'->(∀j,j∉is->σ'[j]?=σ[j]?)->QD σD'->Q σ' H
theorem DG.pg{is:List Nat}{g:DTG}(h:DG X tg is g):PG X tg (cnG X.K is g):=λpins s σ H v u Q I r zq87=>by obtain⟨H₀,σD,d,QD,ok,rp,q,k⟩:=zq87;exact thn (h.run pins s σ H H₀ σD v u d QD I ok r rp q) λ_ s' zq1=>by obtain⟨σ',σD',I',ok',f,qd⟩:=zq1;exact⟨σ',H,I',k σ' σD' (by rw[I'.len,I.len]) ok' f qd⟩
variable {elt:Expr}{ifs:List Expr}{scope:Scope}{cl:List (Str×Addr)}{N' capt:List Str}{k:Nat}{js is:List Nat}{ti:DTF}{g:DTG}{tt:DTT}{te:DTE}
theorem ziw(hc:X.calm=true)(L:zic X scope cl N' capt k js)
  (hi:DIw X tg iter ti) (hg:∀C fp s2 H2,DG (yy X N' scope cl C fp s2 H2) tg is g) (ht:∀C fp s2 H2,DTs (yy X N' scope cl C fp s2 H2) ifs tt) (he:∀C fp s2 H2,DE (yy X N' scope cl C fp s2 H2) elt te)
  (his:∀j∈is,j<k:=by decide) (hs:∀x,foldedSetIterable iter X.env x=pure x:=by intro _;rfl):DF X (.ListComp elt [⟨tg,iter,ifs,0⟩] scope pos) (dLC k js ti g tt te) :=
 DF.of (zqg hc L hi.pi (λC fp s2 H2=>(hg C fp s2 H2).pg) (λC fp s2 H2=>(ht C fp s2 H2).pts) (λC fp s2 H2=>(he C fp s2 H2).pe) hs) λσ H H₀ σD QD ok q=>⟨H₀,σD,_,ok,q,λJ H1 ds s1 it q1 Dd hn=>by
  have z:=ziv (k:=k) (js:=js) (is:=is) (gL:=cnG X.K is g) (Dd:=Dd) (ok.after s1) it q1.1 (λd v σ' H' Q σ0 ok0 r0 q0=>⟨H1,σ0,d,Q,ok0,r0,q0,λσ2 σD2 l2 ok2 f2 q2=>⟨rfl,l2,f2,σD2,ok2,q2⟩⟩)
   (λv σ' H' Q Q' m zq7=>by obtain⟨a,b,c,d,e1,e2,e3,e4⟩:=zq7;exact⟨a,b,c,d,e1,e2,e3,λσ2 σD2 l o f q=>m _ _ (e4 σ2 σD2 l o f q)⟩) his hn q1.2
  obtain⟨W,w0,turn⟩:=z;refine⟨W,w0,λi m σ' H' w=>?_⟩;rcases turn i m σ' H' w with⟨st,a,vs,xs,e,sm,n,e2,r,qd⟩|h
  ·exact .inl ⟨st,a,vs,xs,e,s1.trans sm,s1.free n,e2,r,qd⟩
  ·exact .inr h⟩
end
inductive Ret where
 |val (d:D)|new (xs:List D)
def Ret.d:Ret->D
 |.val d=>d
 |.new xs=>.list xs
abbrev DSp:=List W->(Ret->Prop)->Prop
def ko(K:PySem.W.Frag)(H H':Hp):Ret->V->Prop
 |.val d,v=>Rep K H' d v
 |.new xs,v=>∃a vs,v=.ref a/\H a=none/\H' a=some (.lst vs)/\Reps K H' xs vs
def zx(K:PySem.W.Frag)(sp:DSp):Sp:=λvs H Q _=>∃ws QD,RepWs K H ws vs/\sp ws QD/\∀v H' r,Same H H'->ko K H H' r v->QD r->Q v H'
def zix(sp:DSp)(t:DTP):DTE:=λσ Q=>t σ λws=>sp ws λr=>Q r.d
def ze3(sp:DSp)(t:DTP):DTF:=λσ Q=>t σ λws=>sp ws λr=>match r with
 |.new xs=>Q xs
 |.val _=>False
section
variable {X:Cx}{e:Expr}{es:List Expr}{k k':Nat}{x:Str}{ps:List Str}{sp:DSp}{t:DTP}{p pos:Pos}
theorem zdm{pins:List (Addr×Obj)}{σ:St}{H H₀:Hp}{σD:DSt}{s:Shared}{Q:Ret->Prop}(C:w6 X.prog X.w X.K X.mg X.base k x ps (zx X.K sp))(hr:Room k' X.A)(hg:Gl X x)(ha:DPs X (e::es) t)(hk:k<=k')
  (hdb:(x ==("__debug__" : Str))=false) (he:starEach (e::es) X.env=(false,eval e X.env)::starEach es X.env) (hpl:(backTo pos (starEach es X.env)).any (·.1)=false) (I:Inv X pins σ H s) (ok:DOk X.K H₀ H σD σ) (q:t σD λws=>sp ws Q) :
  wpAny (model X.prog X.w) X.A (eval (.Call (.Name x p) (e::es) [] pos) X.env) (λu s'=>∃v H' r,Inv X pins σ H' s'/\RelV v u/\Same H H'/\ko X.K H H' r v/\Q r) X.xe s:=by
 refine thn (kl C hr hg ha.pa hk hdb he hpl pins s σ H (λv H'=>∃r,Same H H'/\ko X.K H H' r v/\Q r) I ?_) λu s' zq26=>by obtain⟨v,H',I',r,z,sm,rp,qd⟩:=zq26;exact⟨v,H',z,I',r,sm,rp,qd⟩
 refine⟨H₀,σD,_,ok,q,λvs H1 ws s1 r1 q1=>⟨ws,Q,by rw[List.append_nil];exact r1,q1,λv H' r s2 rp qd=>⟨r,s1.trans s2,?_,qd⟩⟩⟩
 cases r with
 |val d=>exact rp
 |new xs=>obtain⟨a,vs,e1,n,e2,r⟩:=rp;exact⟨a,vs,e1,s1.free n,e2,r⟩
theorem zr(C:w6 X.prog X.w X.K X.mg X.base k x ps (zx X.K sp))(hr:Room k' X.A)(hg:Gl X x)(ha:DPs X (e::es) t)(hk:k<=k':=by decide)(hdb:(x ==("__debug__" : Str))=false:=by decide)
  (he:starEach (e::es) X.env=(false,eval e X.env)::starEach es X.env:=by rfl) (hpl:(backTo pos (starEach es X.env)).any (·.1)=false:=by rfl):DE X (.Call (.Name x p) (e::es) [] pos) (zix sp t) :=
 ⟨λpins s σ H H₀ σD Q I ok q=>thn (zdm C hr hg ha hk hdb he hpl I ok q) λu s' zq83=>by
  obtain⟨v,H',r,I',rv,sm,rp,qd⟩:=zq83
  cases r with
  |val d=>exact⟨v,H',d,I',rv,sm,rp,qd⟩
  |new xs=>
   obtain⟨a,vs,rfl,n,e,r⟩:=rp;obtain⟨H'',J,sm',r'⟩:=zeu I' sm n e r;exact⟨.ref a,H'',.list xs,J,rv,sm',r',qd⟩⟩
theorem zlf(C:w6 X.prog X.w X.K X.mg X.base k x ps (zx X.K sp))(hr:Room k' X.A)(hg:Gl X x)(ha:DPs X (e::es) t)(hk:k<=k':=by decide)(hdb:(x ==("__debug__" : Str))=false:=by decide)
  (he:starEach (e::es) X.env=(false,eval e X.env)::starEach es X.env:=by rfl) (hpl:(backTo pos (starEach es X.env)).any (·.1)=false:=by rfl):DF X (.Call (.Name x p) (e::es) [] pos) (ze3 sp t) :=
 ⟨λpins s σ H H₀ σD Q I ok q=>thn (zdm C hr hg ha hk hdb he hpl I ok q) λu s' zq83=>by
  obtain⟨v,H',r,I',rv,sm,rp,qd⟩:=zq83
  cases r with
  |val d=>exact qd.elim
  |new xs=>
   obtain⟨a,vs,rfl,n,e,r⟩:=rp;exact⟨a,H',vs,xs,rv,I',sm,n,e,r,qd⟩⟩
end
structure xf where
 nx:DSt->Prop
 rt:Ret->Prop
 bk:DSt->Prop:=λ_=>False
 ct:DSt->Prop:=λ_=>False
abbrev DTS:=xf->DSt->Prop
def DSP(X:Cx)(pins:List (Addr×Obj))(H₀ H:Hp)(Dn:xf)(f:Flow)(s':Shared):Prop :=
 match f with
 |.next=>∃σ' H' σD',Inv X pins σ' H' s'/\DOk X.K H₀ H' σD' σ'/\Pers H H'/\Dn.nx σD'
 |.brk=>∃σ' H' σD',Inv X pins σ' H' s'/\DOk X.K H₀ H' σD' σ'/\Pers H H'/\Dn.bk σD'
 |.cont=>∃σ' H' σD',Inv X pins σ' H' s'/\DOk X.K H₀ H' σD' σ'/\Pers H H'/\Dn.ct σD'
 |.ret u=>∃v σ' H' r,Inv X pins σ' H' s'/\RelV v u/\Same H₀ H'/\ko X.K H₀ H' r v/\Dn.rt r
structure DS(X:Cx)(st:Stmt)(t:DTS):Prop where
 run:∀(pins:List (Addr×Obj)) (s:Shared) (σ:St) (H H₀:Hp) (σD:DSt) (Dn:xf),Inv X pins σ H s->DOk X.K H₀ H σD σ->t Dn σD->wpAny (model X.prog X.w) X.A (exec st X.env) (DSP X pins H₀ H Dn) X.xe s
structure DSs(X:Cx)(st:List Stmt)(t:DTS):Prop where
 run:∀(pins:List (Addr×Obj)) (s:Shared) (σ:St) (H H₀:Hp) (σD:DSt) (Dn:xf),Inv X pins σ H s->DOk X.K H₀ H σD σ->t Dn σD->wpAny (model X.prog X.w) X.A (execs st X.env) (DSP X pins H₀ H Dn) X.xe s
theorem DSP.back{X:Cx}{pins:List (Addr×Obj)}{H₀ H H1:Hp}{Dn:xf}{f:Flow}{s':Shared}(p:Pers H H1)(h:DSP X pins H₀ H1 Dn f s'):DSP X pins H₀ H Dn f s':=by
 cases f with
 |next=>obtain⟨a,b,c,e1,e2,e3,e4⟩:=h;exact⟨a,b,c,e1,e2,p.trans e3,e4⟩
 |brk=>obtain⟨a,b,c,e1,e2,e3,e4⟩:=h;exact⟨a,b,c,e1,e2,p.trans e3,e4⟩
 |cont=>obtain⟨a,b,c,e1,e2,e3,e4⟩:=h;exact⟨a,b,c,e1,e2,p.trans e3,e4⟩
 |ret u=>exact h
def ziy(K:PySem.W.Frag)(H₀ H:Hp)(Dn:xf):zed where
 nx:=λσ' H'=>∃σD',DOk K H₀ H' σD' σ'/\Pers H H'/\Dn.nx σD'
 bk:=λσ' H'=>∃σD',DOk K H₀ H' σD' σ'/\Pers H H'/\Dn.bk σD'
 ct:=λσ' H'=>∃σD',DOk K H₀ H' σD' σ'/\Pers H H'/\Dn.ct σD'
 rt:=λv H'=>∃r,Same H₀ H'/\ko K H₀ H' r v/\Dn.rt r
section
variable {X:Cx}{st:Stmt}{sts rest:List Stmt}{t u:DTS}{e:Expr}{te:DTE}{tf:DTF}{pos:Pos}
theorem SP.dsp{pins:List (Addr×Obj)}{H₀ H:Hp}{Dn:xf}{f:Flow}{s':Shared}(h:SP X pins (ziy X.K H₀ H Dn) f s'):DSP X pins H₀ H Dn f s':=by
 cases f with
 |next=>obtain⟨a,b,e1,c,e2,e3,e4⟩:=h;exact⟨a,b,c,e1,e2,e3,e4⟩
 |brk=>obtain⟨a,b,e1,c,e2,e3,e4⟩:=h;exact⟨a,b,c,e1,e2,e3,e4⟩
 |cont=>obtain⟨a,b,e1,c,e2,e3,e4⟩:=h;exact⟨a,b,c,e1,e2,e3,e4⟩
 |ret u=>obtain⟨v,a,b,e1,e2,r,e3,e4,e5⟩:=h;exact⟨v,a,b,r,e1,e2,e3,e4,e5⟩
theorem DS.of{t':TS}(h:PS X st t')(k:∀σ H H₀ σD Dn,DOk X.K H₀ H σD σ->t Dn σD->t' (ziy X.K H₀ H Dn) σ H):DS X st t :=
 ⟨λpins s σ H H₀ σD Dn I ok q=>thn (h pins s σ H _ I (k σ H H₀ σD Dn ok q)) λ_ _ z=>z.dsp⟩
def cnS(K:PySem.W.Frag)(t:DTS):TS:=λE σ H=>∃H₀ σD Dn,DOk K H₀ H σD σ/\t Dn σD/\(∀σ' H' σD',DOk K H₀ H' σD' σ'->Pers H H'->Dn.nx σD'->E.nx σ' H')/\(∀v H' r,Same H₀ H'->ko K H₀ H' r v->Dn.rt r->E.rt v H') /\
 (∀σ' H' σD',DOk K H₀ H' σD' σ'->Pers H H'->Dn.bk σD'->E.bk σ' H')/\∀σ' H' σD',DOk K H₀ H' σD' σ'->Pers H H'->Dn.ct σD'->E.ct σ' H'
theorem DSs.ps(h:DSs X sts t):PSs X sts (cnS X.K t):=by
 intro pins s σ H E I zz;obtain⟨H₀,σD,Dn,ok,q,k1,k2,k3,k4⟩:=zz;refine thn (h.run pins s σ H H₀ σD Dn I ok q) λf s' z=>?_
 cases f with
 |next=>obtain⟨a,b,c,e1,e2,e3,e4⟩:=z;exact⟨a,b,e1,k1 a b c e2 e3 e4⟩
 |brk=>obtain⟨a,b,c,e1,e2,e3,e4⟩:=z;exact⟨a,b,e1,k3 a b c e2 e3 e4⟩
 |cont=>obtain⟨a,b,c,e1,e2,e3,e4⟩:=z;exact⟨a,b,e1,k4 a b c e2 e3 e4⟩
 |ret u=>obtain⟨v,a,b,r,e1,e2,e3,e4,e5⟩:=z;exact⟨v,a,b,e1,e2,k2 v b r e3 e4 e5⟩
def zga:DTS:=λDn σ=>Dn.nx σ
def ziz(t u:DTS):DTS:=λDn σ=>t { Dn with nx:=u Dn } σ
theorem yo:DSs X [] zga:=⟨λ_ _ σ H _ σD _ I ok h=>wpAny_execs_nil ⟨σ,H,σD,I,ok,Pers.refl _,h⟩⟩
theorem zh(h1:DS X st t)(h2:DSs X rest u):DSs X (st::rest) (ziz t u):=⟨λpins s σ H H₀ σD Dn I ok q=>by
 refine wpAny_execs_cons (thn (h1.run pins s σ H H₀ σD { Dn with nx:=u Dn } I ok q) λf s1 z=>?_)
 cases f with
 |next=>
  obtain⟨σ',H',σD',I',ok',p,q'⟩:=z;exact thn (h2.run pins s1 σ' H' H₀ σD' Dn I' ok' q') λ_ _ y=>y.back p
 |ret v=>exact z
 |brk=>exact z
 |cont=>exact z⟩
theorem zg(h1:DS X st t):DSs X [st] t:=⟨λpins s σ H H₀ σD Dn I ok q=>by
 refine wpAny_execs_cons (thn (h1.run pins s σ H H₀ σD Dn I ok q) λf s1 z=>?_)
 cases f with
 |next=>exact wpAny_execs_nil z
 |ret v=>exact z
 |brk=>exact z
 |cont=>exact z⟩
def zlg(i:Nat)(t:DTS):DTS:=λDn σ=>match σ[i]? with
 |some (some (.own (.lst xs)))=>t Dn (σ.set i (some (.val (.list xs))))
 |_=>False
theorem ze4{K:PySem.W.Frag}{H:Hp}{xss:List (List D)}{ds:List D}{v:V}{f1 f2:List Addr}(r:RepO K H (.nst xss ds) v f1)(r2:RepO K H (.nst xss ds) v f2):f1=f2:=by
 obtain⟨a,as,us,rfl,rfl,e,n,_⟩:=r;obtain⟨a2,as2,us2,e0,rfl,e2,n2,_⟩:=r2
 cases e0;rw[e]at e2;have h1:as.map V.ref++us=as2.map V.ref++us2:=HO.lst.inj (Option.some.inj e2);have h2:as.map V.ref=as2.map V.ref:=(List.append_inj h1 (by rw[List.length_map,List.length_map,n.len,n2.len])).1;have h3:as=as2:=(List.map_inj_right λx y h=>V.ref.inj h).mp h2;rw[h3]
theorem RepO.fp{K:PySem.W.Frag}{H:Hp}{o:O}{v:V}{f1 f2:List Addr}(r:RepO K H o v f1)(r2:RepO K H o v f2):f1=f2:=by
 induction o with
 |lst xs=>
  obtain⟨b,_,eb,rfl,_⟩:=r;obtain⟨b2,_,eb2,rfl,_⟩:=r2;rw[eb]at eb2
  cases eb2;rfl
 |dct xs=>
  obtain⟨b,_,eb,rfl,_⟩:=r;obtain⟨b2,_,eb2,rfl,_⟩:=r2;rw[eb]at eb2
  cases eb2;rfl
 |nst xss ds=>exact ze4 r r2
 |anc a o ih=>exact ih r.2 r2.2
 |tk ks=>
  obtain⟨b,eb,rfl,_⟩:=r;obtain⟨b2,eb2,rfl,_⟩:=r2;rfl
 |insL c fss=>
  obtain⟨a,ps,rfl,rfl,e1,m⟩:=r;obtain⟨a2,ps2,e0,rfl,e2,m2⟩:=r2
  cases e0;rw[e1]at e2;rw[m.fp m2 (HO.lst.inj (Option.some.inj e2))]
 |fzT xs=>
  obtain⟨_,_,_,_,rfl,_⟩:=r;obtain⟨_,_,_,_,rfl,_⟩:=r2;rfl
 |dcT xs=>
  obtain⟨b,_,eb,rfl,_⟩:=r;obtain⟨b2,_,eb2,rfl,_⟩:=r2;rw[eb]at eb2
  cases eb2;rfl
 |mix ms=>
  obtain⟨a,us,bs,rfl,rfl,e1,m⟩:=r;obtain⟨a2,us2,bs2,e0,rfl,e2,m2⟩:=r2
  cases e0;rw[e1]at e2
  cases e2;rw[m.fp m2]
 |ins c fs=>
  obtain⟨a,dx,C,fv,rfl,rfl,_,e1,_⟩:=r;obtain⟨a2,dx2,C2,fv2,e0,rfl,_,e2,_⟩:=r2
  cases e0;rw[e1]at e2
  cases e2;rfl
theorem DOk.frz{pins:List (Addr×Obj)}{s:Shared}{σ:St}{H H₀:Hp}{σD:DSt}{i:Nat}{xs:List D}(I:Inv X pins σ H s)(ok:DOk X.K H₀ H σD σ)(e:σD[i]?=some (some (.own (.lst xs)))):∃H',Inv X pins σ H' s/\DOk X.K H₀ H' (σD.set i (some (.val (.list xs)))) σ/\Pers H H':=by
 obtain⟨a,vs,e1,e2,r,n⟩:=ok.ownL e;obtain⟨o,J⟩:=I.frz e2;have ps:Pers H (upd H a (.frz o (.lst vs))):=xc e2 rfl;refine⟨_,J,?_,ps⟩;obtain⟨s0,fp,sl,nd,fr⟩:=id ok;have sm:Same H₀ (upd H a (.frz o (.lst vs))):=λb u hb=>by rw[zd (zj hb n)];exact s0 b u hb
 have hi:i<σD.length:=(List.getElem?_eq_some_iff.mp e).1
 -- the slot is forgotten first,then filled with the value
 obtain⟨_,fp1,sl1,nd1,fr1⟩:DOk X.K H₀ H (σD.set i none) (σ.set i (some (.ref a))):=ok.setN (some (.ref a)) i;have eσ:σ.set i (some (.ref a))=σ:=by
  refine List.ext_getElem? λj=>?_
  by_cases hj:i=j
  ·subst hj;rw[List.getElem?_set_self (by rw[<-ok.len];exact hi),e1]
  ·rw[List.getElem?_set_ne hj]
 rw[eσ]at sl1;have off:a∉fp1:=λha=>by
  -- every slot's own addresses apart: a belongs to slot i alone
  have key:∀{σD:DSt}{σ:St}{fp:List Addr},Slots X.K H₀ H σD σ fp->fp.Nodup->∀{i:Nat},σD[i]?=some (some (.own (.lst xs)))->σ[i]?=some (some (.ref a))->∀{fp1:List Addr},Slots X.K H₀ H (σD.set i none) σ fp1->a∉fp1:=by
   intro σD σ fp h;have det:∀{σD:DSt}{σ:St}{f1 f2:List Addr},Slots X.K H₀ H σD σ f1->Slots X.K H₀ H σD σ f2->f1=f2:=by
    intro σD σ f1 f2 h1
    induction h1 generalizing f2 with
    |nil=>intro h2;cases h2;rfl
    |none _ ih=>intro h2;cases h2 with|none t=>exact ih t
    |val _ _ ih=>intro h2;cases h2 with|val _ t=>exact ih t
    |vw _ _ ih=>intro h2;cases h2 with|vw _ t=>exact ih t
    |vd _ _ ih=>intro h2;cases h2 with|vd _ t=>exact ih t
    |exc _ _ ih=>intro h2;cases h2 with|exc _ t=>exact ih t
    |scr _ _ ih=>intro h2;cases h2 with|scr _ t=>exact ih t
    |pen _ _ ih=>intro h2;cases h2 with|pen _ t=>exact ih t
    |tmp _ _ ih=>intro h2;cases h2 with|tmp _ t=>exact ih t
    |@own o v f ws vs fp r _ ih=>
     intro h2
     cases h2 with
     |own r2 t=>
      cases o with
      |lst xs=>
       obtain⟨b,_,eb,rfl,_⟩:=r;obtain⟨b2,_,eb2,rfl,_⟩:=r2;rw[eb]at eb2
       cases eb2;rw[ih t]
      |dct xs=>
       obtain⟨b,_,eb,rfl,_⟩:=r;obtain⟨b2,_,eb2,rfl,_⟩:=r2;rw[eb]at eb2
       cases eb2;rw[ih t]
      |nst xss ds=>
       rw[ze4 r r2,ih t]
      |anc _ _=>rw[RepO.fp r r2,ih t]
      |ins _ _=>rw[RepO.fp r r2,ih t]
      |mix _=>rw[RepO.fp r r2,ih t]
      |tk _=>rw[RepO.fp r r2,ih t]
      |dcT _=>rw[RepO.fp r r2,ih t]
      |fzT _=>rw[RepO.fp r r2,ih t]
      |insL _ _=>rw[RepO.fp r r2,ih t]
   induction h with
   |nil=>intro _ i e;simp at e
   |none t ih=>
    intro nd i e ev fp1 h1
    cases i with
    |zero=>simp at e
    |succ i=>cases h1 with|none t1=>exact ih nd (by simpa using e) (by simpa using ev) t1
   |val r t ih=>
    intro nd i e ev fp1 h1
    cases i with
    |zero=>simp at e
    |succ i=>cases h1 with|val _ t1=>exact ih nd (by simpa using e) (by simpa using ev) t1
   |vw r t ih=>
    intro nd i e ev fp1 h1
    cases i with
    |zero=>simp at e
    |succ i=>cases h1 with|vw _ t1=>exact ih nd (by simpa using e) (by simpa using ev) t1
   |vd r t ih=>
    intro nd i e ev fp1 h1
    cases i with
    |zero=>simp at e
    |succ i=>cases h1 with|vd _ t1=>exact ih nd (by simpa using e) (by simpa using ev) t1
   |exc r t ih=>
    intro nd i e ev fp1 h1
    cases i with
    |zero=>simp at e
    |succ i=>cases h1 with|exc _ t1=>exact ih nd (by simpa using e) (by simpa using ev) t1
   |scr r t ih=>
    intro nd i e ev fp1 h1
    cases i with
    |zero=>simp at e
    |succ i=>cases h1 with|scr _ t1=>exact ih nd (by simpa using e) (by simpa using ev) t1
   |pen r t ih=>
    intro nd i e ev fp1 h1
    cases i with
    |zero=>simp at e
    |succ i=>cases h1 with|pen _ t1=>exact ih nd (by simpa using e) (by simpa using ev) t1
   |tmp r t ih=>
    intro nd i e ev fp1 h1
    cases i with
    |zero=>simp at e
    |succ i=>cases h1 with|tmp _ t1=>exact ih nd (by simpa using e) (by simpa using ev) t1
   |@own o v f ws wvs fp' r t ih=>
    intro nd i e ev fp1 h1;rw[List.nodup_append]at nd
    cases i with
    |zero=>
     simp at e ev;subst e ev;obtain⟨b,_,eb,rfl,_⟩:=r
     cases eb
     cases h1 with
     |none t1=>
      rw[det t1 t];exact λz=>nd.2.2 _ (by simp) _ z rfl
    |succ i=>
     have e':ws[i]?=some (some (.own (.lst xs))):=by simpa using e
     have ev':wvs[i]?=some (some (.ref a)):=by simpa using ev
     cases h1 with
     |own r1 t1=>
      intro z;rcases List.mem_append.mp z with z|z
      ·obtain⟨v',e1,f',⟨b,zs,rfl,rfl,hb,rb⟩,m⟩:=t.get e';rw[ev']at e1
       cases e1
       cases o with
       |lst ys=>
        obtain⟨b1,_,eb1,rfl,_⟩:=r;obtain⟨b2,_,eb2,rfl,_⟩:=r1;rw[eb1]at eb2
        cases eb2;exact nd.2.2 a z a (m a (by simp)) rfl
       |dct ys=>
        obtain⟨b1,_,eb1,rfl,_⟩:=r;obtain⟨b2,_,eb2,rfl,_⟩:=r1;rw[eb1]at eb2
        cases eb2;exact nd.2.2 a z a (m a (by simp)) rfl
       |nst yss ds=>
        rw[<-ze4 r r1]at z;exact nd.2.2 a z a (m a (by simp)) rfl
       |anc _ _=>
        rw[<-RepO.fp r r1]at z;exact nd.2.2 a z a (m a (by simp)) rfl
       |ins _ _=>
        rw[<-RepO.fp r r1]at z;exact nd.2.2 a z a (m a (by simp)) rfl
       |mix _=>
        rw[<-RepO.fp r r1]at z;exact nd.2.2 a z a (m a (by simp)) rfl
       |tk _=>
        rw[<-RepO.fp r r1]at z;exact nd.2.2 a z a (m a (by simp)) rfl
       |dcT _=>
        rw[<-RepO.fp r r1]at z;exact nd.2.2 a z a (m a (by simp)) rfl
       |fzT _=>
        rw[<-RepO.fp r r1]at z;exact nd.2.2 a z a (m a (by simp)) rfl
       |insL _ _=>
        rw[<-RepO.fp r r1]at z;exact nd.2.2 a z a (m a (by simp)) rfl
      ·exact ih nd.2.1 e' ev' t1 z
  exact key sl nd e e1 sl1 ha
 have sl2:Slots X.K H₀ (upd H a (.frz o (.lst vs))) (σD.set i none) σ fp1:=sl1.keep ps (λh=>h.frz e2) λb hb w hw=>by rw[zd (λz=>off (by rw[<-z];exact hb))];exact hw
 have fin:DOk X.K H₀ (upd H a (.frz o (.lst vs))) (σD.set i none) σ:=⟨sm,fp1,sl2,nd1,fr1⟩
 have:=fin.setV (d:=.list xs) (v:=.ref a) (.lst ze (r.mono ps)) i;rw[List.set_set,eσ]at this;exact this
theorem zoh(i:Nat)(h:DS X st t):DS X st (zlg i t):=⟨λpins s σ H H₀ σD Dn I ok q=>by
 unfold zlg at q
 split at q
 ·next xs e=>
  obtain⟨H',I',ok',p⟩:=DOk.frz I ok e;exact thn (h.run pins s σ H' H₀ _ Dn I' ok' q) λ_ _ z=>z.back p
 ·exact q.elim⟩
def zoi(te:DTE):DTS:=λDn σ=>te σ λd=>Dn.rt (.val d)
def zi0(tf:DTF):DTS:=λDn σ=>tf σ λxs=>Dn.rt (.new xs)
theorem z7(he:DE X e te):DS X (.Return (some e) pos) (zoi te) :=
 DS.of (we he.pe) λσ H H₀ σD Dn ok q=>⟨H₀,σD,_,ok,q,λv H1 d s1 r1 q1=>⟨.val d,ok.same.trans s1,r1,q1⟩⟩
theorem zgb(he:DF X e tf):DS X (.Return (some e) pos) (zi0 tf) :=
 DS.of (we he.pe) λσ H H₀ σD Dn ok q=>⟨H₀,σD,_,ok,q,λa H1 vs xs s1 n e r1 q1=>⟨.new xs,ok.same.trans s1,⟨a,vs,rfl,ok.same.free n,e,r1⟩,q1⟩⟩
def zoj(i:Nat)(te:DTE):DTS:=λDn σ=>te σ λd=>Dn.nx (σ.set i (some (.val d)))
def zi1(i:Nat)(tf:DTF):DTS:=λDn σ=>tf σ λxs=>Dn.nx (σ.set i (some (.own (.lst xs))))
def zi2(i:Nat)(tf:DTF):DTS:=λDn σ=>tf σ λxs=>(∃a b c:Int,xs = [.int a,.int b,.int c])/\Dn.nx (σ.set i (some .pen))
theorem yn{i:Nat}{x:Str}{pos':Pos}(hN:X.N.Nodup)(hi:X.N[i]?=some x)(hx:Loc X.env.scope x)(he:DE X e te)(hs:swapsWith e (some (.Name x pos')) pos.line X.env=pure false:=by rfl)(hf:X.fn x=true\/X.env.scope.names.lookup x=some .local:=by first|exact .inl rfl|exact .inr rfl|assumption):
  DS X (.Assign [.Name x pos'] e pos) (zoj i te) :=
 DS.of (je hN hi hx he.pe hs hf) λσ H H₀ σD Dn ok q=>⟨H₀,σD,_,ok,q,λv H1 d s1 r1 q1=>⟨_,(ok.after s1).setV r1 i,s1.pers,q1⟩⟩
theorem zlh{i:Nat}{x:Str}{pos':Pos}(hN:X.N.Nodup)(hi:X.N[i]?=some x)(hx:Loc X.env.scope x)(he:DF X e tf)(hs:swapsWith e (some (.Name x pos')) pos.line X.env=pure false:=by rfl)(hf:X.fn x=true\/X.env.scope.names.lookup x=some .local:=by first|exact .inl rfl|exact .inr rfl|assumption):
  DS X (.Assign [.Name x pos'] e pos) (zi1 i tf) :=
 DS.of (je hN hi hx he.pe hs hf) λσ H H₀ σD Dn ok q=>⟨H₀,σD,_,ok,q,λa H1 vs xs s1 n e r1 q1=>⟨_,ok.setO s1 n e r1 i,s1.pers,q1⟩⟩
theorem zli{i:Nat}{x:Str}{pos':Pos}(hN:X.N.Nodup)(hi:X.N[i]?=some x)(hx:Loc X.env.scope x)(he:DF X e tf)(hs:swapsWith e (some (.Name x pos')) pos.line X.env=pure false:=by rfl)(hf:X.fn x=true\/X.env.scope.names.lookup x=some .local:=by first|exact .inl rfl|exact .inr rfl|assumption):
  DS X (.Assign [.Name x pos'] e pos) (zi2 i tf):=⟨λpins s σ H H₀ σD Dn I ok q=>by
 refine thn (je hN hi hx he.pe hs hf pins s σ H { nx:=λσ' H'=>∃a,Same H H'/\H a=none/\σ'=σ.set i (some (.ref a))/\(∃x y z:Int,H' a=some (.lst [.int x,.int y,.int z]))/\Dn.nx (σD.set i (some .pen)),rt:=λ_ _=>False } I ⟨H₀,σD,_,ok,q,λa H1 vs xs s1 n e r1 q1=>?_⟩) λf s' z=>?_
 ·obtain⟨⟨x,y,z,rfl⟩,q1⟩:=q1
  cases r1 with
  |cons r1 t=>cases t with
   |cons r2 t=>cases t with
    |cons r3 t=>
     cases t
     cases r1
     cases r2
     cases r3;exact⟨a,s1,n,rfl,⟨x,y,z,e⟩,q1⟩
 ·cases f with
  |next=>
   obtain⟨σ',H',I',a,sm,n,rfl,⟨x,y,z,e⟩,q⟩:=z;have sm2:Same H (upd H' a (jh a)):=λb u hb=>by rw[zd (zj hb n)];exact sm b u hb
   exact⟨_,_,_,I'.toPen e,(ok.after sm2).put (.pen ze) i,sm2.pers,q⟩
  |ret u=>obtain⟨_,_,_,_,_,z⟩:=z;exact z.elim
  |brk=>obtain⟨_,_,_,z⟩:=z;exact z.elim
  |cont=>obtain⟨_,_,_,z⟩:=z;exact z.elim⟩
def zok(te:DTE)(g:DTG):DTS:=λDn σ=>te σ λd=>g d σ Dn.nx
theorem ze5{tg:Expr}{is:List Nat}{g:DTG}(he:DE X e te)(hg:DG X tg is g)(hs:swapsWithSole [tg] e pos.line X.env=pure false:=by rfl)(hw:swappedStores [tg] e X.env=pure none:=by rfl)
  (h1:(assignEach [tg] X.env).map (·.2) = [assign tg X.env]:=by rfl):DS X (.Assign [tg] e pos) (zok te g) :=
 DS.of (zee he.pe hg.pg hs hw h1) λσ H H₀ σD Dn ok q=>⟨H₀,σD,_,ok,q,λv H1 d s1 r1 q1=>⟨H₀,σD,d,_,ok.after s1,r1,q1,λσ' σD' _ ok' _ q'=>⟨σD',ok',s1.pers,q'⟩⟩⟩
def zol(i j:Nat)(t:DTF):DTS:=λDn σ=>t σ λds=>match ds with
 |[d,e]=>Dn.nx ((σ.set i (some (.val d))).set j (some (.val e)))
 |_=>False
theorem zom{i j:Nat}{x y:Str}{a b:Expr}{px py pt:Pos}{kt k2 pt2}(hc:X.calm=true)(hN:X.N.Nodup)(hi:X.N[i]?=some x)(hj:X.N[j]?=some y)(hij:i≠j)
  (hx:X.env.scope.names.lookup x=some .local) (hy:X.env.scope.names.lookup y=some .local) (ha:DA X [a,b] tf)
  (hw:swappedStores [.Tuple [.Name x px,.Name y py] kt pt] (.Tuple [a,b] k2 pt2) X.env=pure (some [x,y]))
  (hs:swapsWithSole [.Tuple [.Name x px,.Name y py] kt pt] (.Tuple [a,b] k2 pt2) pos.line X.env=pure false:=by rfl) :
  DS X (.Assign [.Tuple [.Name x px,.Name y py] kt pt] (.Tuple [a,b] k2 pt2) pos) (zol i j tf) :=
 DS.of (zhu hc hN hi hj hij hx hy ha.pa hw hs) λσ H H₀ σD Dn ok q=>⟨H₀,σD,_,ok,q,λvs H1 ds s1 r1 q1=>by
  match ds,r1,q1 with
  |[d,e],r1,q1=>
   cases r1 with
   |cons p1 t1=>cases t1 with
    |cons p2 t2=>
     cases t2;exact⟨_,_,rfl,_,((ok.after s1).setV p1 i).setV p2 j,s1.pers,q1⟩⟩
def dIf(c:DTT)(t u:DTS):DTS:=λDn σ=>c σ λb=>if b=true then t Dn σ else u Dn σ
theorem xq{c:Expr}{a b:List Stmt}{tc:DTT}(hc:DT X c tc)(ha:DSs X a t)(hb:DSs X b u):DS X (.If c a b pos) (dIf tc t u):=⟨λpins s σ H H₀ σD Dn I ok q=>by
 refine wpAny_If (thn (hc.run pins s σ H H₀ σD _ I ok q) λd s1 zr3=>?_);obtain⟨H1,I1,sm,q1⟩:=zr3
 cases d with
 |true=>exact thn (ha.run pins s1 σ H1 H₀ σD Dn I1 (ok.after sm) (by simpa using q1)) λ_ _ z=>z.back sm.pers
 |false=>exact thn (hb.run pins s1 σ H1 H₀ σD Dn I1 (ok.after sm) (by simpa using q1)) λ_ _ z=>z.back sm.pers⟩
def zbg(g:DTG)(tb:DTS)(Dn:xf):List D->DSt->Prop
 |[],σ=>Dn.nx σ
 |d::ds,σ=>g d σ λσ2=>tb { Dn with nx:=zbg g tb Dn ds,ct:=zbg g tb Dn ds,bk:=Dn.nx } σ2
theorem vc{g:DTG}{tb:DTS}{Dn:xf}(Iv:List D->DSt->Prop)(hs:∀d ds σ (N:DSt->Prop),Iv (d::ds) σ->(∀σ',Iv ds σ'->N σ')->g d σ λσ2=>tb { Dn with nx:=N,ct:=N,bk:=Dn.nx } σ2)(hd:∀σ,Iv [] σ->Dn.nx σ):∀{ds:List D}{σ:DSt},Iv ds σ->zbg g tb Dn ds σ
 |[],σ,h=>hd σ h
 |d::ds,σ,h=>hs d ds σ _ h λσ' h'=>vc Iv hs hd h'
def zon(ti:DTF)(g:DTG)(tb:DTS):DTS:=λDn σ=>ti σ λds=>zbg g tb Dn ds σ
theorem zao{tg iter:Expr}{body:List Stmt}{ti:DTF}{is:List Nat}{g:DTG}{tb:DTS}(hp:PassesOwn (model X.prog X.w) X.A X.env X.xe)(hc:X.calm=true)(hi:DI X tg iter ti)(hg:DG X tg is g)(hb:DSs X body tb)
  (hs:∀x,foldedSetIterable iter X.env x=pure x:=by intro _;rfl):DS X (.For tg iter body [] pos) (zon ti g tb) :=
 DS.of (zm4 hp hc hi.pi hg.pg hb.ps hs) λσ H H₀ σD Dn ok q=>⟨H₀,σD,_,ok,q,λJ H1 ds s1 it q1=>by
  have sub:∀{i:Nat}{d:D}{σ':DSt},ds[i]?=some d->zbg g tb Dn (ds.drop i) σ'=g d σ' (λσ2=>tb { Dn with nx:=zbg g tb Dn (ds.drop (i+1)),ct:=zbg g tb Dn (ds.drop (i+1)),bk:=Dn.nx } σ2):=λ{i d σ'} e=>by
   obtain⟨hi,e'⟩:=List.getElem?_eq_some_iff.mp e;rw[List.drop_eq_getElem_cons hi,e'];rfl
  refine⟨λi m σ' H'=>m=ds.length-i/\i<=ds.length/\Pers H1 H'/\∃σD',DOk X.K H₀ H' σD' σ'/\zbg g tb Dn (ds.drop i) σD',⟨ds.length,rfl,Nat.zero_le _,Pers.refl _,σD,ok.after s1,q1⟩,?_⟩;rintro i m σ' H' ⟨rfl,hi,pr,σD',ok',q'⟩
  by_cases hlt:i<ds.length
  ·have e:ds[i]?=some ds[i]:=by simp[hlt]
   obtain⟨go,yl⟩:=it.go H' i ds[i] pr e;rw[sub e]at q';refine .inr ⟨go,λσ2 H2=>Pers H1 H2/\∃σD2,DOk X.K H₀ H2 σD2 σ2/\zbg g tb Dn (ds.drop (i+1)) σD2,λσ2 H2 zq18=>by obtain⟨p2,σD2,ok2,q2⟩:=zq18;exact⟨ds.length-(i+1),by omega,rfl,hlt,p2,σD2,ok2,q2⟩,λx H2 y=>?_⟩;obtain⟨s2,r2⟩:=yl x H2 y;have p2:=pr.trans s2.pers;refine⟨H₀,σD',ds[i],_,ok'.after s2,r2,q',λσ3 σD3 _ ok3 _ q3=>?_⟩;exact⟨H₀,σD3,_,ok3,q3,λσ4 H4 σD4 ok4 p4 q4=>⟨p2.trans p4,σD4,ok4,q4⟩,λv H4 r sm rp qr=>⟨r,sm,rp,qr⟩,λσ4 H4 σD4 ok4 p4 q4=>⟨σD4,ok4,(s1.pers.trans p2).trans p4,q4⟩,λσ4 H4 σD4 ok4 p4 q4=>⟨p2.trans p4,σD4,ok4,q4⟩⟩
  ·have e:i=ds.length:=by omega
   subst e;rw[List.drop_length]at q';exact .inl ⟨it.stop H' pr,σD',ok',s1.pers.trans pr,q'⟩⟩
variable {ta tb:DTE}
def zlj(i:Nat)(te:DTE):DTS:=λDn σ=>match σ[i]? with
 |some (some (.own (.lst xs)))=>te σ λd=>xs.length<sizeLine/\Dn.nx (clr (σ.set i (some (.own (.lst (xs ++ [d]))))))
 |_=>False
theorem zb6(i:Nat){x:Str}{p1 apos cpos:Pos}(he:DE X e te)(hN:X.N[i]?=some x:=by rfl)(hv:Vis X.env.scope x:=by first|exact Or.inl rfl|exact Or.inr (Or.inl rfl)|exact Or.inr (Or.inr rfl))(hd:(x ==("__debug__" : Str))=false:=by decide)
  (hcd:(x ==("__classdict__" : Str))=false:=by decide)
  (hbase:attributeBase (.Name x p1) "append" X.env (eval (.Name x p1) X.env)=eval (.Name x p1) X.env:=by rfl)
  (hfew:((backTo cpos (starEach (e :: []) X.env)).all (λx=>!x.1) && (backToKw cpos (keywordEach [] X.env)).all (λx=>x.1.isSome)
   && decide ((e :: []).length+([]:List Keyword).length+(if ([]:List Keyword).isEmpty then 0 else 1)<30))=true:=by rfl)
  (hline:(apos.endLine == cpos.line)=true:=by rfl) (hst:starEach (e :: []) X.env=(false,eval e X.env)::starEach [] X.env:=by rfl) (hplain:(backTo cpos (starEach [] X.env)).any (·.1)=false:=by rfl)
  (hs:swapsWith (.Call (.Attribute (.Name x p1) "append" apos) [e] [] cpos) none pos.line X.env=pure false:=by rfl):DS X (.Expr (.Call (.Attribute (.Name x p1) "append" apos) [e] [] cpos) pos) (zlj i te) :=
 DS.of (zcf (zby PySem.F.plainAttrs_list PySem.F.slot_list_append PySem.F.type_list_append jg (yg (i:=i) hN hv hd hcd) (zn he.pe ye hst) hbase hfew hline hst hplain) hs) λσ H H₀ σD Dn ok q=>by
  unfold zlj at q
  split at q
  ·next xs eo=>
   obtain⟨a,vs,e1,e2,r,n⟩:=ok.ownL eo;refine⟨.ref a,e1,.inl ⟨rfl,vs,SqL.of e2⟩,H₀,σD,_,ok,q,λv H1 d s1 r1 q1=>?_⟩;refine⟨a,vs,v,rfl,rfl,s1 _ _ e2,by rw[<-r.length];exact q1.1,_,(ok.after s1).write eo e1 (s1 _ _ e2) ((r.same s1).append (.cons r1 .nil)),s1.pers.trans (xc (s1 _ _ e2) rfl),q1.2⟩
  ·exact q.elim
end
def xi(N:List Str)(ws:List W):DSt:=ws.map some++List.replicate (N.length-ws.length) none
section
variable {P:Program}{w:World}{K:PySem.W.Frag}{mg:Str->Option Value}{base:Heap}
theorem DOk.begin{H:Hp}{ws:List W}{vs:List V}(r:RepWs K H ws vs)(N:List Str):DOk K H H (xi N ws) (xo N vs):=by
 refine⟨Same.refl _,[],?_,List.nodup_nil,λa ha=>by cases ha⟩;unfold xi xo;rw[<-r.length];generalize N.length-ws.length=n;have rep:∀n:Nat,Slots K H H (List.replicate n none) (List.replicate n none) []:=λn=>by
  induction n with
  |zero=>exact .nil
  |succ n ih=>exact .none ih
 induction r with
 |nil=>exact rep n
 |@cons w' v ws vs r t ih=>
  cases w' with
  |val d=>exact .val r ih
  |vw xs=>exact .vw r ih
  |vd xs=>exact .vd r ih
  |exc xs=>exact .exc r ih
  |scr ns=>obtain⟨a,rfl,r⟩:=r;exact .scr r ih
  |pen=>obtain⟨a,rfl,r⟩:=r;exact .pen r ih
  |tmp d=>exact r.elim
  |own o=>exact r.elim
theorem Fun.dok{x qual:Str}{st:Stmt}{f:Addr}{fd:FuncData}{N ps:List Str}{k:Nat}{sp:DSp}(F:Fun K x qual st f fd)(S:zm N ps (zb st))(len:∀ws Q,sp ws Q->ws.length=ps.length)
  (hbody:∀(cdv:Value) (A:Around) (outer:List Env) (s:Shared) (H:Hp) (ws:List W) (Q:Ret->Prop) (E:XK),Room k (A.deeper (envOfC qual (zb st) s.heap.objs.size f cdv))->sp ws Q ->
   ∃t,DSs (y6 CX0 P w K mg base N qual (zb st) f cdv A outer s H E).nox (zy st) t/\t { nx:=λ_=>Q (.val .none),rt:=Q } (xi N ws)):FnOk P w K mg base CX0 (k+1) f fd ps (zx K sp):=by
 refine F.ok S (λvs H Q E h=>?_) λcdv A outer s H vs Q E hr h=>?_
 ·obtain⟨ws,QD,r,q,_⟩:=h;rw[<-r.length];exact len ws QD q
 ·obtain⟨ws,QD,r,q,kk⟩:=h;obtain⟨t,ht,hq⟩:=hbody cdv A outer s H ws QD E hr q;refine⟨_,ht.ps,H,_,_,DOk.begin r N,hq,λσ' H' σD' ok' p' q'=>kk .non H' (.val .none) ok'.same .non q',λv H' r' sm rp qr=>kk v H' r' sm rp qr,λ_ _ _ _ _ z=>z.elim,λ_ _ _ _ _ z=>z.elim⟩
end
def zi3:Sp:=λvs H Q _=>∃(p:Addr) (m:Int),vs = [.ref p,.int m]/\0<m/\m<10000000000000000000000000000000000000000000000000000000000000/\Pen H p/\∀(v:Int) H',0<=v->v<m->Pen H' p->But p H H'->Q (.int v) H'
def yj:DSp:=λws Q=>∃m:Int,ws = [.pen,.val (.int m)]/\0<m/\m<10000000000000000000000000000000000000000000000000000000000000/\∀v:Int,0<=v->v<m->Q (.val (.int v))
theorem zoo{P:Program}{w:World}{K:PySem.W.Frag}{mg:Str->Option Value}{base:Heap}{k:Nat}{f:Addr}{fd:FuncData}{ps:List Str}(F:FnOk P w K mg base CX0 k f fd ps zi3):FnOk P w K mg base CX0 k f fd ps (zx K yj):=by
 refine⟨λvs H Q E h=>?_,λA outer s H args us vs Q E hr e0 hb hv hs=>?_⟩
 ·obtain⟨ws,QD,rw',⟨m,rfl,hm,hM,q⟩,kk⟩:=h
  cases rw' with
  |cons r1 t=>cases t with
   |cons r2 t=>
    cases t;obtain⟨p,rfl,hp⟩:=r1;have r2:Rep K H (.int m) _:=r2
    cases r2;exact F.len [.ref p,.int m] (upd H p (.lst [.int 0,.int 0,.int 0])) (λ_ _=>True) E ⟨p,m,rfl,hm,hM,⟨0,0,0,ze⟩,λ_ _ _ _ _ _=>trivial⟩
 ·obtain⟨ws,QD,rw',⟨m,rfl,hm,hM,q⟩,kk⟩:=hs
  cases rw' with
  |cons r1 t=>cases t with
   |cons r2 t=>
    cases t;obtain⟨p,rfl,hp⟩:=r1;have r2:Rep K H (.int m) _:=r2
    cases r2;obtain⟨⟨x,y,z,tx,ty,tz,n,e⟩,_,_⟩:=e0.hok p _ hp;have mu:Mut (H p):=by rw[hp];exact trivial
    have hok1:HOk P w (upd H p (.lst [.int x,.int y,.int z])) s.heap:=e0.hok.write (h':=s.heap) mu (.inl rfl) (λb u _ q=>q) ⟨_,e⟩ ⟨by show 3<=sizeLine;decide,[_,_,_],n,.cons ⟨_,rfl⟩ (.cons ⟨_,rfl⟩ (.cons ⟨_,rfl⟩ .nil)),e⟩;have nn:∀b,H b=none->b≠p:=λb h z=>by rw[z,hp]at h;cases h
    have e1:Env0 P w K mg base A outer s (upd H p (.lst [.int x,.int y,.int z])):=⟨e0.frames,e0.mod,λb o h=>⟨(e0.bs b o h).1,by rw[zd (nn b (e0.bs b o h).2)];exact(e0.bs b o h).2⟩,e0.bsz,e0.funs,λb hb=>by rw[zd (nn b (e0.frf b hb))];exact e0.frf b hb,hok1,e0.bare⟩
    refine codeAny_mono (F.run A outer s _ args us [.ref p,.int m] (λv H'=>∃i,v=.int i/\0<=i/\i<m/\Pen H' p/\But p (upd H p (.lst [.int x,.int y,.int z])) H') E hr e1 hb hv ⟨p,m,rfl,hm,hM,⟨x,y,z,ze⟩,λv H' h1 h2 h3 h4=>⟨v,rfl,h1,h2,h3,h4⟩⟩) λr s' z=>?_
    cases r with
    |error e=>exact z
    |ok fl=>
     cases fl with
     |ret u=>
      obtain⟨v,H',os,bare,un,hok',rv,i,rfl,h1,h2,⟨a',b',c',hp'⟩,bt⟩:=z;obtain⟨zz,its,n',r',e'⟩:=hok' p _ hp';have pk:∃(x y z:Int) (tx ty tz:Tok),its = [.int x tx,.int y ty,.int z tz]:=by
       cases r' with
       |cons r1 r=>cases r with
        |cons r2 r=>cases r with
         |cons r3 r=>
          cases r;obtain⟨t1,rfl⟩:=r1;obtain⟨t2,rfl⟩:=r2;obtain⟨t3,rfl⟩:=r3;exact⟨_,_,_,_,_,_,rfl⟩
      obtain⟨x',y',z',tx',ty',tz',rfl⟩:=pk;have np:∀{b:Addr}{u:HO},H b=some u->u≠jh p->b≠p:=λ{b u} h n z=>by rw[z,hp]at h;cases h;exact n rfl
      have hpen:∀{b:Addr},b≠p->upd H' p (jh p) b=H' b:=λh=>zd h;refine⟨.int i,upd H' p (jh p),os,bare,⟨λb o h n'=>un.keep b o h (by rw[zd (nn b n')];exact n'),λb o h n'=>un.slot b o h (by rw[zd (nn b n')];exact n'),λb o h n' hx=>?_,un.there,λb xs h=>?_,λb o u h=>?_,λb ps h=>?_⟩,?_,rv,kk (.int i) _ (.val (.int i)) (λb o h=>?_) (show Rep K _ (.int i) (.int i) from .int) (q i h1 h2)⟩
      ·rw[hpen (nn b n')];exact un.free b o h (by rw[zd (nn b n')];exact n') hx
      ·have nb:=np h (by unfold jh;intro z;cases z);rw[hpen nb];exact un.tups b xs (by rw[zd nb];exact h)
      ·have nb:=np h (by unfold jh;intro z;cases z);rw[hpen nb];exact un.frzs b o u (by rw[zd nb];exact h)
      ·have nb:=np h (by unfold jh;intro z;cases z);obtain⟨more,e2⟩:=un.tbls b ps (by rw[zd nb];exact h);exact⟨more,by rw[hpen nb];exact e2⟩
      ·exact hok'.write (h':=s'.heap) (by rw[hp'];exact trivial) (.inl rfl) (λb u _ q=>q) ⟨_,e'⟩ (zf4 e')
      ·by_cases hb:b=p
       ·subst hb;rw[hp]at h
        cases h;exact ze
       ·rw[zd hb];exact bt b o hb (by rw[zd hb];exact h)
     |next=>exact z
     |brk=>exact z
     |cont=>exact z
section
variable {prog:Program}{w:World}{A:Around}{E:Value->Shared->Prop}{s:Shared}
theorem zb7{it t:Addr}{items:Array Value}(hne:t≠it):∀(n i:Nat) (s:Shared) (Q:List Value->Shared->Prop),s.heap.IsListIter it t i->s.heap.IsList t items->i+n<=items.size ->
  (∀h',h'.IsListIter it t (i+n)->Heap.SameBut it s.heap h'->Q ((items.toList.drop i).take n) { s with heap:=h' })->wpAny (model prog w) A (draw (.ref it) n) Q E s
 |0,i,s,Q,hit,_,_,hQ=>by
  show wpAny _ _ (pure []) Q E s;exact wpAny_pure (by simpa using hQ s.heap hit (Heap.SameBut.refl ..))
 |n+1,i,s,Q,hit,ht,hle,hQ=>by
  have hlt:i<items.size:=by omega
  show wpAny _ _ (pyNext (.ref it) >>= _) Q E s;refine wpAny_bind (wpAny_pyNext_list_item hit ht (x:=items[i]) (by simp[hlt]) λh₁ hit₁ hs₁=>?_);have ht1:h₁.IsList t items:=by obtain⟨o,e,r⟩:=ht;exact⟨o,(hs₁.2 t hne).trans e,r⟩
  refine wpAny_bind (wpAny_holding (zb7 hne n (i+1) _ _ hit₁ ht1 (by omega) λh₂ hit₂ hs₂=>wpAny_pure ?_));have hd:items.toList.drop i=items[i]::items.toList.drop (i+1):=by simp[List.drop_eq_getElem_cons,hlt]
  have:=hQ h₂ (by rw[show i+(n+1)=i+1+n by omega];exact hit₂) (hs₁.trans hs₂);rw[hd,List.take_succ_cons]at this;exact this
theorem jk{t:Addr}{items:Array Value}{Q:List Value->Shared->Prop}(hh:A.handled=none)(ht:s.heap.IsList t items)
  (hQ:∀h',Heap.ExtBut s.heap.objs.size s.heap h'->Q items.toList { s with heap:=h' }):wpAny (model prog w) A (unpackItems (.ref t) items.size none) Q E s:=by
 have hlt:t≠s.heap.objs.size:=by obtain⟨o,ho,_⟩:=ht;exact Nat.ne_of_lt (Heap.lt_size ho)
 have push:∀o:Obj,(s.heap.push o).IsList t items:=λo=>by obtain⟨o',e,r⟩:=ht;exact⟨o',Heap.get?_push_of_some _ e,r⟩
 unfold unpackItems;refine wpAny_bind ?_
 ·unfold notIterableAtAll;refine wpAny_bind (wpAny_specialOf ht.typeIs slot_list_iter.lookup ?_);refine wpAny_pure ?_;simp only[Bool.false_eq_true,if_false];refine wpAny_bind (wpAny_holding (wpAny_pyIter_list ht ?_));refine wpAny_bind (wpAny_holding (zb7 hlt items.size 0 _ _ ⟨_,Heap.get?_push_size _ rfl,rfl,rfl⟩ (push _) (by omega) λh₁ hit₁ hs₁=>?_))
  have hall:List.take items.size (List.drop 0 items.toList)=items.toList:=by
   rw[List.drop_zero];exact List.take_of_length_le (by simp)
  rw[hall];rw[if_neg (by simp)];have ht₁:h₁.IsList t items:=by obtain⟨o',e,r⟩:=push { cls:=.type "list_iterator",data:=.fields #[.ref t,.int 0 0] };exact⟨o',(hs₁.2 t hlt).trans e,r⟩
  refine wpAny_bind (wpAny_holding (wpAny_pyNext_list_end hh hit₁ ht₁ (by simp) λh₂ he₂=>?_));simp only[Option.isSome_none,Bool.false_eq_true,if_false];refine wpAny_pure (hQ h₂ λb o hb e=>he₂ b o hb (hs₁.extBut b o hb (Heap.get?_push_of_some _ e)))
theorem kr{env:Env}{elts:List Expr}{x1}{pos:Pos}{t:Addr}{items:Array Value}{Q:Unit->Shared->Prop}(hh:A.handled=none)(ht:s.heap.IsList t items)
  (hn:(assignEach elts env).length=items.size) (hstar:(assignEach elts env).findIdx? (·.1)=none)
  (h:∀h',Heap.ExtBut s.heap.objs.size s.heap h'->wpAny (model prog w) A (assignInOrder ((assignEach elts env).map (·.2)) items.toList) Q E { s with heap:=h' }) :
  wpAny (model prog w) A (assign (.Tuple elts x1 pos) env (.ref t)) Q E s:=by
 rw[assign_Tuple];refine wpAny_bind (wpAny_standAt ?_);unfold unpack;rw[hn,hstar];exact wpAny_bind (wpAny_holding (jk hh ht h))
end
section
variable {X:Cx}{tg iter e:Expr}{es:List Expr}{te:DTE}{tf:DTF}{p pos:Pos}
def zi4(n:Nat)(gs:zcp):DTG:=λd σ Q=>match d with
 |.tuple xs=>xs.length=n/\gs xs σ Q
 |.list xs=>xs.length=n/\gs xs σ Q
 |_=>False
theorem zap{k:Nat}{is:List Nat}{gs:zcp}{n:Nat}(hc:X.calm=true)(h:DGs X es is gs)(hn:(assignEach es X.env).length=n:=by rfl)(hst:(assignEach es X.env).findIdx? (·.1)=none:=by rfl):DG X (.Tuple es k pos) is (zi4 n gs):=⟨λpins s σ H H₀ σD v u d Q I ok r rp q=>by
 cases d with
 |tuple xs=>exact(zog (k:=k) (pos:=pos) hc h hn hst).run pins s σ H H₀ σD v u _ Q I ok r rp q
 |list xs=>
  obtain⟨hl,q⟩:=q
  cases rp with
  |lst hq rr=>
   cases r;obtain⟨its,rv,ht,hz⟩:=I.list (.inl (.inr ⟨_,hq⟩));refine kr (I.ok.hd hc) ht.isList (by simp[hn,<-hl,<-rv.length,rr.length]) hst λh' hx=>?_;have I1:Inv X pins σ H { s with heap:=h' }:=I.kept (t':=s.toks) λb o e=>hx b o (Nat.ne_of_lt (Heap.lt_size e)) e;exact h.run pins _ σ H H₀ σD _ _ xs Q I1 ok (by simpa using rv) rr q
 |_=>exact q.elim⟩
variable {elt:Expr}{ifs:List Expr}{scope:Scope}{cl:List (Str×Addr)}{N' capt:List Str}{k:Nat}{js is:List Nat}{ti:DTF}{g:DTG}{tt:DTT}
inductive RepRs(K:PySem.W.Frag):Hp->Hp->List Ret->List V->Prop
 |nil {H H':Hp} (s:Same H H'):RepRs K H H' [] []
 |val {H H1 H':Hp}{d:D}{v:V}{rs:List Ret}{vs:List V} (s:Same H H1) (r:Rep K H1 d v) (t:RepRs K H1 H' rs vs):RepRs K H H' (.val d::rs) (v::vs)
 |new {H H1 H':Hp}{xs:List D}{a:Addr}{ws:List V}{rs:List Ret}{vs:List V} (s:Same H H1) (n:H a=none) (e:H1 a=some (.lst ws)) (r:Reps K H1 xs ws) (t:RepRs K H1 H' rs vs):RepRs K H H' (.new xs::rs) (.ref a::vs)
theorem RepRs.same{K:PySem.W.Frag}{H H':Hp}{rs:List Ret}{vs:List V}(h:RepRs K H H' rs vs):Same H H':=by
 induction h with
 |nil s=>exact s
 |val s _ _ ih=>exact s.trans ih
 |new s _ _ _ _ ih=>exact s.trans ih
theorem RepRs.length{K:PySem.W.Frag}{H H':Hp}{rs:List Ret}{vs:List V}(h:RepRs K H H' rs vs):rs.length=vs.length:=by
 induction h with
 |nil s=>rfl
 |val s _ _ ih=>simp[ih]
 |new s _ _ _ _ ih=>simp[ih]
def Ret.w:Ret->W
 |.val d=>.val d
 |.new xs=>.own (.lst xs)
def zi5:List Nat->List Ret->DSt->DSt
 |i::is,r::rs,σ=>zi5 is rs (σ.set i (some r.w))
 |_,_,σ=>σ
def zi6:List Nat->List V->St->St
 |i::is,v::vs,σ=>zi6 is vs (σ.set i (some v))
 |_,_,σ=>σ
theorem DOk.multi{K:PySem.W.Frag}{H₀ H H':Hp}{rs:List Ret}{vs:List V}(h:RepRs K H H' rs vs):∀{σD:DSt}{σ:St} (is:List Nat),DOk K H₀ H σD σ->DOk K H₀ H' (zi5 is rs σD) (zi6 is vs σ):=by
 induction h with
 |nil s=>intro σD σ is ok;cases is <;> exact ok.after s
 |val s r t ih=>
  intro σD σ is ok
  cases is with
  |nil=>exact(ok.after s).after t.same
  |cons i is=>exact ih is ((ok.after s).setV r i)
 |new s n e r t ih=>
  intro σD σ is ok
  cases is with
  |nil=>exact(ok.after s).after t.same
  |cons i is=>exact ih is (ok.setO s n e r i)
abbrev DTM:=DSt->(List Ret->Prop)->Prop
structure DM(X:Cx)(es:List Expr)(t:DTM):Prop where
 run:∀(pos:Pos) (pins:List (Addr×Obj)) (s:Shared) (σ:St) (H H₀:Hp) (σD:DSt) (Q:List Ret->Prop),Inv X pins σ H s->DOk X.K H₀ H σD σ->t σD Q ->
  wpAny (model X.prog X.w) X.A (spliced (backTo pos (starEach es X.env))) (λus s'=>∃vs H' rs,Inv X pins σ H' s'/\Vals vs us/\RepRs X.K H H' rs vs/\Q rs) X.xe s
def cnM(K:PySem.W.Frag)(t:DTM):TA:=λσ H Q=>∃H₀ σD QD,DOk K H₀ H σD σ/\t σD QD/\∀vs H' rs,RepRs K H H' rs vs->QD rs->Q vs H'
theorem DM.pa{t:DTM}(h:DM X es t):PA X es (cnM X.K t):=λpos pins s σ H Q I zq65=>by obtain⟨H₀,σD,QD,ok,q,k⟩:=zq65;exact thn (h.run pos pins s σ H H₀ σD QD I ok q) λus s' zq60=>by obtain⟨vs,H',rs,I',r,rp,qd⟩:=zq60;exact⟨vs,H',I',r,k vs H' rs rp qd⟩
def zi7:DTM:=λ_ Q=>Q []
def zi8(t:DTE)(r:DTM):DTM:=λσ Q=>t σ λd=>r σ λrs=>Q (.val d::rs)
def zi9(t:DTF)(r:DTM):DTM:=λσ Q=>t σ λxs=>r σ λrs=>Q (.new xs::rs)
theorem zop:DM X [] zi7:=⟨λpos pins s σ H H₀ σD Q I ok q=>thn (ye pos pins s σ H (λvs H'=>vs = []/\H'=H) I ⟨rfl,rfl⟩) λus s' zq48=>by obtain⟨vs,H',I',r,e1,e2⟩:=zq48;subst e1 e2;exact⟨[],H',[],I',r,.nil (Same.refl _),q⟩⟩
theorem zoq{r:DTM}(ha:DE X e te)(hr:DM X es r)(hs:starEach (e::es) X.env=(false,eval e X.env)::starEach es X.env:=by rfl):DM X (e::es) (zi8 te r):=⟨λpos pins s σ H H₀ σD Q I ok q=>by
 refine thn (zn ha.pe hr.pa hs pos pins s σ H (λvs H'=>∃rs,RepRs X.K H H' rs vs/\Q rs) I ?_) λus s' zq10=>by obtain⟨vs,H',I',r,rs,rp,qd⟩:=zq10;exact⟨vs,H',rs,I',r,rp,qd⟩
 exact⟨H₀,σD,_,ok,q,λv H1 d s1 r1 q1=>⟨H₀,σD,_,ok.after s1,q1,λvs H2 rs r2 q2=>⟨.val d::rs,.val s1 r1 r2,q2⟩⟩⟩⟩
theorem zor{r:DTM}(ha:DF X e tf)(hr:DM X es r)(hs:starEach (e::es) X.env=(false,eval e X.env)::starEach es X.env:=by rfl):DM X (e::es) (zi9 tf r):=⟨λpos pins s σ H H₀ σD Q I ok q=>by
 refine thn (zn ha.pe hr.pa hs pos pins s σ H (λvs H'=>∃rs,RepRs X.K H H' rs vs/\Q rs) I ?_) λus s' zq10=>by obtain⟨vs,H',I',r,rs,rp,qd⟩:=zq10;exact⟨vs,H',rs,I',r,rp,qd⟩
 exact⟨H₀,σD,_,ok,q,λa H1 ws xs s1 n e r1 q1=>⟨H₀,σD,_,ok.after s1,q1,λvs H2 rs r2 q2=>⟨.new xs::rs,.new s1 n e r1 r2,q2⟩⟩⟩⟩
def zja(is:List Nat)(t:DTM):DTS:=λDn σ=>t σ λrs=>rs.length=is.length/\Dn.nx (zi5 is rs σ)
theorem zlk{tm:DTM}{i j:Nat}{x y:Str}{a b:Expr}{px py pt:Pos}{kt k2 pt2}(hc:X.calm=true)(hN:X.N.Nodup)(hi:X.N[i]?=some x)(hj:X.N[j]?=some y)(hij:i≠j)
  (hx:X.env.scope.names.lookup x=some .local) (hy:X.env.scope.names.lookup y=some .local) (ha:DM X [a,b] tm)
  (hw:swappedStores [.Tuple [.Name x px,.Name y py] kt pt] (.Tuple [a,b] k2 pt2) X.env=pure (some [x,y]))
  (hs:swapsWithSole [.Tuple [.Name x px,.Name y py] kt pt] (.Tuple [a,b] k2 pt2) pos.line X.env=pure false:=by rfl) :
  DS X (.Assign [.Tuple [.Name x px,.Name y py] kt pt] (.Tuple [a,b] k2 pt2) pos) (zja [i,j] tm) :=
 DS.of (zhu hc hN hi hj hij hx hy ha.pa hw hs) λσ H H₀ σD Dn ok q=>⟨H₀,σD,_,ok,q,λvs H1 rs r1 q1=>by
  have hl:=r1.length
  match vs,rs,r1,q1,hl with
  |[v,w'],[r,r'],r1,q1,_=>exact⟨v,w',rfl,_,DOk.multi r1 [i,j] ok,r1.same.pers,q1.2⟩
  |[],rs,r1,q1,hl=>exact absurd (hl.symm.trans q1.1) (by simp)
  |[_],rs,r1,q1,hl=>exact absurd (hl.symm.trans q1.1) (by simp)
  |_::_::_::_,rs,r1,q1,hl=>exact absurd (hl.symm.trans q1.1) (by simp)⟩
structure DGN(X:Cx)(es:List Expr)(is:List Nat):Prop where
 pgs:PGs X es (λvs σ H Q=>vs.length=is.length/\Q (zi6 is vs σ) H)
section
variable {pins:List (Addr×Obj)}{σ:St}{H:Hp}{s:Shared}
theorem RepN.reads(I:Inv X pins σ H s){d:D}{v:V}{u:Value}(h:RepN X.K H d v)(r:RelV v u):∃as,Reads s.heap u d as:=by
 refine RepN.rec (motive_1:=λd v _=>∀u:Value,RelV v u->∃as,Reads s.heap u d as) (motive_2:=λds vs _=>∀us:List Value,Vals vs us->∃as,ReadsAll s.heap us ds as) ?_ ?_ ?_ ?_ ?_ ?_ ?_ ?_ h u r
 ·intro u r;cases r;exact⟨_,.none⟩
 ·intro b u r;cases r;exact⟨_,.bool _⟩
 ·intro i u r;obtain⟨t,rfl⟩:=r;exact⟨_,.int _ _⟩
 ·intro x u r;obtain⟨t,rfl⟩:=r;exact⟨_,.str _ _⟩
 ·intro xs a vs h q ih u r
  cases r;obtain⟨its,rv,⟨o,e1,e2,n,e3⟩,_⟩:=I.tuple h;obtain⟨as,ra⟩:=ih its rv;exact⟨_,.tuple e1 e2 e3 (by simpa using ra)⟩
 ·intro xs a vs h q ih u r
  cases r;obtain⟨z,its,n,rv,e⟩:=h.ok I.hok;obtain⟨as,ra⟩:=ih its rv;exact⟨_,.list e rfl rfl (by simpa using ra)⟩
 ·intro us r;cases r;exact⟨_,.nil⟩
 ·intro d v ds vs q t i j us r
  cases r with
  |cons r1 r2=>
   obtain⟨as,ra⟩:=i _ r1;obtain⟨bs,rb⟩:=j _ r2;exact⟨_,.cons ra rb⟩
end
def zqq(X:Cx)(pins:List (Addr×Obj))(σ:St)(H:Hp)(Q:D->Prop)(u:Value)(s':Shared):Prop:=∃v H' d,Inv X pins σ H' s'/\RelV v u/\Same H H'/\RepN X.K H' d v/\Q d
structure DN(X:Cx)(e:Expr)(t:DTE):Prop where
 run:∀(pins:List (Addr×Obj)) (s:Shared) (σ:St) (H H₀:Hp) (σD:DSt) (Q:D->Prop),Inv X pins σ H s->DOk X.K H₀ H σD σ->t σD Q->wpAny (model X.prog X.w) X.A (eval e X.env) (zqq X pins σ H Q) X.xe s
structure DAn(X:Cx)(es:List Expr)(t:DTF):Prop where
 run:∀(pos:Pos) (pins:List (Addr×Obj)) (s:Shared) (σ:St) (H H₀:Hp) (σD:DSt) (Q:List D->Prop),Inv X pins σ H s->DOk X.K H₀ H σD σ->t σD Q ->
  wpAny (model X.prog X.w) X.A (spliced (backTo pos (starEach es X.env))) (λus s'=>∃vs H' ds,Inv X pins σ H' s'/\Vals vs us/\Same H H'/\RepNs X.K H' ds vs/\Q ds) X.xe s
def cnN(K:PySem.W.Frag)(t:DTE):TE:=λσ H Q=>∃H₀ σD QD,DOk K H₀ H σD σ/\t σD QD/\∀v H' d,Same H H'->RepN K H' d v->QD d->Q v H'
def zrx(K:PySem.W.Frag)(t:DTF):TA:=λσ H Q=>∃H₀ σD QD,DOk K H₀ H σD σ/\t σD QD/\∀vs H' ds,Same H H'->RepNs K H' ds vs->QD ds->Q vs H'
theorem DN.pe{t:DTE}(h:DN X e t):PE X e (cnN X.K t):=λpins s σ H Q I zq63=>by obtain⟨H₀,σD,QD,ok,q,k⟩:=zq63;exact thn (h.run pins s σ H H₀ σD QD I ok q) λu s' zq50=>by obtain⟨v,H',d,I',r,sm,rp,qd⟩:=zq50;exact⟨v,H',I',r,k v H' d sm rp qd⟩
theorem DAn.pa{t:DTF}(h:DAn X es t):PA X es (zrx X.K t):=λpos pins s σ H Q I zq68=>by obtain⟨H₀,σD,QD,ok,q,k⟩:=zq68;exact thn (h.run pos pins s σ H H₀ σD QD I ok q) λus s' zq63=>by obtain⟨vs,H',ds,I',r,sm,rp,qd⟩:=zq63;exact⟨vs,H',I',r,k vs H' ds sm rp qd⟩
theorem DN.of{t:DTE}{t':TE}(h:PE X e t')(k:∀σ H H₀ σD QD,DOk X.K H₀ H σD σ->t σD QD->t' σ H (λv H'=>∃d,Same H H'/\RepN X.K H' d v/\QD d)):DN X e t :=
 ⟨λpins s σ H H₀ σD Q I ok q=>thn (h pins s σ H _ I (k σ H H₀ σD Q ok q)) λu s' zq80=>by obtain⟨v,H',I',r,d,sm,rp,qd⟩:=zq80;exact⟨v,H',d,I',r,sm,rp,qd⟩⟩
theorem zjb{d:D}(c:d.canLay0=true):∀kvs,d ≠ .dict kvs:=λkvs e=>by subst e;simp[PyData.canLay0]at c
def zgc(i:Nat):DTE:=λσ Q=>match σ[i]? with
 |some (some (.val d))=>d.canLay0=true/\Q d
 |some (some (.own (.lst xs)))=>PyData.canLayAll0 xs=true/\Q (.list xs)
 |some (some (.vw xs))=>PyData.canLayAll0 xs=true/\Q (.list xs)
 |some (some (.tmp d))=>Q d
 |_=>False
theorem zos(i:Nat){x:Str}{pos:Pos}(hN:X.N[i]?=some x:=by rfl)(hv:Vis X.env.scope x:=by first|exact Or.inl rfl|exact Or.inr (Or.inl rfl)|exact Or.inr (Or.inr rfl))(hd:(x ==("__debug__" : Str))=false:=by decide)
  (hcd:(x ==("__classdict__" : Str))=false:=by decide):DN X (.Name x pos) (zgc i):=by
 refine DN.of (yg (i:=i) hN hv hd hcd) λσ H H₀ σD QD ok q=>?_;unfold zgc at q
 split at q
 ·next d e=>
  obtain⟨v,e1,r⟩:=ok.val e;exact⟨v,e1,d,Same.refl _,r.now (zjb q.1) q.1,q.2⟩
 ·next xs e=>
  obtain⟨a,vs,e1,e2,r,_⟩:=ok.ownL e;exact⟨.ref a,e1,.list xs,Same.refl _,.lst (.inl e2) (r.now q.1),q.2⟩
 ·next xs e=>
  obtain⟨v,e1,a,vs,rfl,e2,r⟩:=ok.vw e;exact⟨.ref a,e1,.list xs,Same.refl _,.lst e2 (r.now q.1),q.2⟩
 ·next d e=>
  obtain⟨v,e1,r⟩:=ok.tmp e;exact⟨v,e1,d,Same.refl _,r,q⟩
 ·exact q.elim
theorem zgd:DAn X [] zig:=⟨λpos pins s σ H H₀ σD Q I ok q=>thn (ye pos pins s σ H (λvs H'=>vs = []/\H'=H) I ⟨rfl,rfl⟩) λus s' zq49=>by obtain⟨vs,H',I',r,e1,e2⟩:=zq49;subst e1 e2;exact⟨[],H',[],I',r,Same.refl _,.nil,q⟩⟩
theorem zdn{t:DTE}{r:DTF}(ha:DN X e t)(hr:DAn X es r)(hs:starEach (e::es) X.env=(false,eval e X.env)::starEach es X.env:=by rfl):DAn X (e::es) (zdi t r):=⟨λpos pins s σ H H₀ σD Q I ok q=>by
 refine thn (zn ha.pe hr.pa hs pos pins s σ H (λvs H'=>∃ds,Same H H'/\RepNs X.K H' ds vs/\Q ds) I ?_) λus s' zq20=>by obtain⟨vs,H',I',r,ds,sm,rp,qd⟩:=zq20;exact⟨vs,H',ds,I',r,sm,rp,qd⟩
 exact⟨H₀,σD,_,ok,q,λv H1 d s1 r1 q1=>⟨H₀,σD,_,ok.after s1,q1,λvs H2 ds s2 r2 q2=>⟨d::ds,s1.trans s2,.cons (r1.same s2) r2,q2⟩⟩⟩⟩
theorem RepNs.length{K:PySem.W.Frag}{H:Hp}{ds:List D}{vs:List V}(h:RepNs K H ds vs):ds.length=vs.length:=h.ind (P:=λds vs=>ds.length=vs.length) rfl λ_ _ _ _ _ _ j=>congrArg (·+1) j
end
section
variable {X:Cx}{tg iter e:Expr}{es:List Expr}{te:DTE}{tf:DTF}{p pos:Pos}
end
section
variable {prog:Program}{w:World}{A:Around}{E:Value->Shared->Prop}{s:Shared}
end
section
variable {X:Cx}{a:Expr}{t:DTF}{p pos:Pos}
end
theorem zge{f:D->(Option D->Prop)->Prop}(Pv:D->D->Prop):∀{ds:List D}{Q:List D->Prop},(∀d∈ds,∀k:Option D->Prop,(∀y,Pv d y->k (some y))->f d k)->(∀ys,Paired Pv ds ys->Q ys)->lcD f ds Q
 |[],Q,_,q=>q [] .nil
 |d::ds,Q,h,q=>h d List.mem_cons_self _ λy hy=>zge Pv (λe he=>h e (List.mem_cons_of_mem _ he)) λys hys=>q (y::ys) (.cons hy hys)
theorem zgf{α:Type}{f:D->(Option D->Prop)->Prop}(enc:α->D)(F:α->Option D){as:List α}{Q:List D->Prop}(h:∀a∈as,∀k:Option D->Prop,k (F a)->f (enc a) k)(q:Q (as.filterMap F)):lcD f (as.map enc) Q:=by
 induction as generalizing Q with
 |nil=>exact q
 |cons a as ih=>
  refine h a List.mem_cons_self _ (ih (λe he=>h e (List.mem_cons_of_mem _ he)) ?_);rw[List.filterMap_cons]at q
  cases e:F a with
  |none=>rw[e]at q;exact q
  |some y=>rw[e]at q;exact q
theorem zjc{α:Type}{f:D->(Option D->Prop)->Prop}(enc:α->D)(F:α->D){as:List α}{Q:List D->Prop}(h:∀a∈as,∀k:Option D->Prop,k (some (F a))->f (enc a) k)(q:Q (as.map F)):lcD f (as.map enc) Q :=
 zgf enc (λa=>some (F a)) h (by rw[List.filterMap_eq_map'];exact q)
theorem ze6{f:D->(Option D->Prop)->Prop}{lo:Int}{n:Nat}{Q:List D->Prop}(Pv:D->Prop)(h:∀d,∀k:Option D->Prop,(∀y,Pv y->k (some y))->f d k)(q:∀ys:List D,ys.length=n->(∀y∈ys,Pv y)->Q ys):lcD f (xh lo n) Q:=by
 refine zge (λ_ y=>Pv y) (λd _ k hk=>h d k hk) λys hys=>q ys ?_ ?_
 ·have:=Paired.length hys;rw[<-this];simp[xh]
 ·clear q h;generalize xh lo n=ds at hys
  induction hys with
  |nil=>intro y hy;cases hy
  |cons r t ih=>intro y hy;rcases List.mem_cons.mp hy with rfl|hy;exact r;exact ih y hy
theorem zgg{xs:List D}{k:Int}{Q:D->Prop}(h0:0<=k)(h1:k<xs.length)(h:∀x∈xs,Q x):∃d,atI xs k=some d/\Q d:=by
 obtain⟨v,e,m⟩:=zet h0 h1;exact⟨v,e,h v m⟩
theorem zmo{ns:List Int}{k lo hi:Int}{Q:D->Prop}(h0:0<=k)(h1:k<ns.length)(hb:∀n∈ns,lo<=n/\n<=hi)(h:∀n:Int,lo<=n->n<=hi->Q (.int n)):∃d,atI (ns.map PyData.int) k=some d/\Q d :=
 zgg h0 (by simpa using h1) λx hx=>by
  obtain⟨n,hn,rfl⟩:=List.mem_map.mp hx;exact h n (hb n hn).1 (hb n hn).2
theorem ze7{α:Type}(enc:α->D)(xs:List α)(lo hi:Option Int):∃ys:List α,zan (xs.map enc) lo hi=ys.map enc/\(∀y∈ys,y∈xs)/\ys.length<=xs.length:=by
 refine⟨(xs.drop (HT.sIx xs.length 0 lo)).take (HT.sIx xs.length xs.length hi-HT.sIx xs.length 0 lo),?_,λy hy=>List.mem_of_mem_drop (List.mem_of_mem_take hy),?_⟩
 ·unfold zan;rw[List.length_map,List.map_take,List.map_drop]
 ·rw[List.length_take,List.length_drop];omega
structure Sh(d:D)(n k:Nat):Prop where
 can:d.canLay0=true
 sho:d.showable=true
 dep:d.depth<=k
 len:d.shown.length<=n
theorem Sh.mono{d:D}{n k n' k':Nat}(h:Sh d n k)(h1:n<=n')(h2:k<=k'):Sh d n' k':=⟨h.can,h.sho,Nat.le_trans h.dep h2,Nat.le_trans h.len h1⟩
theorem Sh.none:Sh .none 4 0:=⟨rfl,rfl,Nat.le_refl _,Nat.le_of_ble_eq_true rfl⟩
theorem Sh.bool{b:Bool}:Sh (.bool b) 5 0:=⟨rfl,rfl,Nat.le_refl _,by cases b <;> exact Nat.le_of_ble_eq_true rfl⟩
theorem zot{i:Int}(h:i.natAbs<10 ^ 40):i.natAbs.log2<1920:=by
 by_cases h0:i.natAbs=0
 ·rw[h0];decide
 ·exact(Nat.log2_lt h0).mpr (Nat.lt_of_lt_of_le h (Nat.le_trans (by decide:10 ^ 40<=2 ^ 200) (Nat.pow_le_pow_right (by decide) (by decide))))
theorem Sh.int{i:Int}(h:i.natAbs<10 ^ 40):Sh (.int i) 41 0 :=
 ⟨rfl,by simp only[PyData.showable];exact decide_eq_true (zot h),Nat.le_refl _,by
  have:=int_text_length_le10 (a:=i) (k:=40) (by decide) h;simp only[PyData.shown];show(Str.ofString (toString i)).length<=41;rw[PySem.ofString_length];exact this⟩
theorem Sh.intB{i:Int}(h1 : -1000000000000000000000000000000000000000<=i)(h2:i<=1000000000000000000000000000000000000000):Sh (.int i) 41 0:=Sh.int (by omega)
theorem jl:∀{xs:List D}{n k:Nat},(∀x∈xs,Sh x n k)->PyData.canLayAll0 xs=true
 |[],_,_,_=>rfl
 |x::xs,n,k,h=>by simp only[PyData.canLayAll0,(h x List.mem_cons_self).can,jl λy hy=>h y (List.mem_cons_of_mem _ hy),Bool.and_self]
theorem jm:∀{xs:List D}{n k:Nat},(∀x∈xs,Sh x n k)->PyData.showableAll xs=true
 |[],_,_,_=>rfl
 |x::xs,n,k,h=>by simp only[PyData.showableAll,(h x List.mem_cons_self).sho,jm λy hy=>h y (List.mem_cons_of_mem _ hy),Bool.and_self]
theorem jn:∀{xs:List D}{n k:Nat},(∀x∈xs,Sh x n k)->PyData.depthAll xs<=k
 |[],_,_,_=>Nat.zero_le _
 |x::xs,n,k,h=>by
  simp only[PyData.depthAll];exact Nat.max_le.mpr ⟨(h x List.mem_cons_self).dep,jn λy hy=>h y (List.mem_cons_of_mem _ hy)⟩
theorem jo:∀{xs:List D}{n k:Nat},(∀x∈xs,Sh x n k)->((PyData.shownAll xs).map (·.length)).sum<=xs.length * n
 |[],_,_,_=>by simp[PyData.shownAll]
 |x::xs,n,k,h=>by
  simp only[PyData.shownAll,List.map_cons,List.sum_cons,List.length_cons];have h1:=(h x List.mem_cons_self).len;have h2:=jo λy hy=>h y (List.mem_cons_of_mem _ hy);rw[Nat.succ_mul];omega
theorem xj:∀xs:List D,(PyData.shownAll xs).length=xs.length
 |[]=>rfl
 |x::xs=>by simp only[PyData.shownAll,List.length_cons,xj xs]
theorem Sh.lst{xs:List D}{n k m:Nat}(h:∀x∈xs,Sh x n k)(hl:xs.length<=m):Sh (.list xs) (m *(n+2)+3) (k+1) where
 can:=by simpa[PyData.canLay0]using jl h
 sho:=by simpa[PyData.showable]using jm h
 dep:=by simp only[PyData.depth];have:=jn h;omega
 len:=by
  simp only[PyData.shown];have h1:=listText_len_le (PyData.shownAll xs);have h2:=jo h;rw[xj]at h1;have h3:xs.length *(n+2)<=m *(n+2):=Nat.mul_le_mul_right _ hl;rw[Nat.mul_add]at h3;omega
theorem Sh.tup{xs:List D}{n k m:Nat}(h:∀x∈xs,Sh x n k)(hl:xs.length<=m):Sh (.tuple xs) (m *(n+2)+3) (k+1) where
 can:=by simpa[PyData.canLay0]using jl h
 sho:=by simpa[PyData.showable]using jm h
 dep:=by simp only[PyData.depth];have:=jn h;omega
 len:=by
  simp only[PyData.shown];have h1:=tupleText_len_le (PyData.shownAll xs);have h2:=jo h;rw[xj]at h1;have h3:xs.length *(n+2)<=m *(n+2):=Nat.mul_le_mul_right _ hl;rw[Nat.mul_add]at h3;omega
theorem Sh.lay{d:D}{n k:Nat}(h:Sh d n k)(hk:k<=64):Lay d:=by
 unfold Lay SeqAt.shaped;rw[Bool.and_eq_true];exact⟨h.can,decide_eq_true (Nat.le_trans h.dep hk)⟩
theorem Sh.all{d:D}{n k:Nat}(h:Sh d n k)(hk:k<=64)(hn:n<=16777216):Lay d/\d.showable=true/\d.shown.length<=sizeLine:=⟨h.lay hk,h.sho,Nat.le_trans h.len (by rw[sizeLine_eq];exact hn)⟩
theorem Lay.int(i:Int):Lay (.int i):=rfl
theorem Lay.none:Lay .none:=rfl
theorem Lay.bool(b:Bool):Lay (.bool b):=rfl
theorem wc{m:Int}{Q:Ret->Prop}(h1:0<m)(h2:m<10000000000000000000000000000000000000000000000000000000000000)(q:∀v:Int,0<=v->v<m->Q (.val (.int v))):yj [.pen,.val (.int m)] Q:=⟨m,rfl,h1,h2,q⟩
theorem zcq{α:Type}{p:α->Prop}{a:α}{l:List α}(h:p a)(t:∀y∈l,p y):∀y∈a::l,p y:=λy hy=>(List.mem_cons.mp hy).elim (λe=>by rw[e];exact h) (t y)
theorem zou{α:Type}{p:α->Prop}:∀y∈([]:List α),p y:=λy hy=>by cases hy
section
variable {X:Cx}
theorem zll{pos:Pos}:DE X (.Dict [] [] pos) (dC (.dict [])):=⟨λpins s σ H H₀ σD Q I ok q=>thn (zk4 pins s σ H (λv H'=>∃p,v=.ref p/\H p=none/\H'=upd H p (.dK [])) I (λp hp=>⟨p,rfl,hp,rfl⟩)) λu s' ⟨v,H',I',r,p,e1,hp,e2⟩=>by
 subst e1 e2;obtain⟨o,J⟩:=I'.frzK (vs:=[]) ze;exact⟨.ref p,_,.dict [],J,r,λb z hb=>by rw[zd (zj hb hp),zd (zj hb hp)];exact hb,.dic ze .nil,q⟩⟩
end
section
variable {X:Cx}
end
end L2
set_option maxHeartbeats 4000000
namespace PySem
section
variable {prog:Program}{w:World}{A:Around}{R:Result->Shared->Prop}{I:Addr}{fp wr:List Addr}{n:Nat}{P:Nat->Value->Prop}{St:Nat->Heap->Prop}
end
section
variable {prog:Program}{w:World}{A:Around}{E:Value->Shared->Prop}{s:Shared}{l:Addr}{its:Array Value}{d:Value}
end
section
variable {prog:Program}{w:World}{A:Around}{R:Result->Shared->Prop}{I:Addr}{fp wr:List Addr}{n:Nat}{P:Nat->Value->Prop}{St:Nat->Heap->Prop}
end
section
variable {prog:Program}{w:World}{A:Around}{E:Value->Shared->Prop}{s:Shared}{l:Addr}{its:Array Value}{d:Value}
end
end PySem
namespace L2
open PySem PySem.Spec PyProof.Rows
section
variable {X:Cx}{a d e:Expr}{ta:DTF}{td te:DTE}{p pos kp:Pos}
end
theorem ze8(lo:Int)(n:Nat):(xh lo n).length=n:=by simp[xh]
theorem Lay.list{xs:List D}(h:∀x∈xs,Lay x/\x.depth<=63):Lay (.list xs):=by
 unfold Lay SeqAt.shaped;rw[Bool.and_eq_true];have h1:PyData.canLayAll0 xs=true:=by
  induction xs with
  |nil=>rfl
  |cons x xs ih=>
   simp only[PyData.canLayAll0,Bool.and_eq_true];exact⟨(h x List.mem_cons_self).1.can,ih λy hy=>h y (List.mem_cons_of_mem _ hy)⟩
 have h2:PyData.depthAll xs<=63:=by
  clear h1
  induction xs with
  |nil=>simp[PyData.depthAll]
  |cons x xs ih=>
   simp only[PyData.depthAll];have:=(h x List.mem_cons_self).2;have:=ih λy hy=>h y (List.mem_cons_of_mem _ hy);omega
 refine⟨by simpa[PyData.canLay0]using h1,decide_eq_true ?_⟩;simp only[PyData.depth];omega
theorem Lay.tuple{xs:List D}(h:∀x∈xs,Lay x/\x.depth<=63):Lay (.tuple xs):=by
 have:=Lay.list h;unfold Lay SeqAt.shaped at this ⊢;simpa[PyData.canLay0,PyData.depth]using this
theorem zdo{g:DTG}{tb:DTS}{Dn:xf}{ds:List D}{σ:DSt}(S:DSt->Prop)(h0:S σ)(hs:∀d∈ds,∀σ (N:DSt->Prop),S σ->(∀σ',S σ'->N σ')->g d σ λσ2=>tb { Dn with nx:=N,ct:=N,bk:=Dn.nx } σ2)(hd:∀σ,S σ->Dn.nx σ):zbg g tb Dn ds σ:=by
 refine vc (λds' σ=>(∀d∈ds',d∈ds)/\S σ) ?_ (λσ h=>hd σ h.2) ⟨λ_ h=>h,h0⟩;rintro d ds' σ N ⟨h1,h2⟩ k;exact hs d (h1 d List.mem_cons_self) σ N h2 λσ' h'=>k σ' ⟨λx hx=>h1 x (List.mem_cons_of_mem _ hx),h'⟩
def ze9:D->(D->Prop)->Prop
 |.bool b,Q=>Q (.str (if b=true then "True" else "False"))
 |d,Q=>Lay d/\d.showable=true/\d.shown.length<=sizeLine/\Q (.str d.shown)
def zfa(t:DTF):DTE:=λσ Q=>t σ λds=>match ds with
 |[d]=>ze9 d Q
 |_=>False
section
variable {X:Cx}{e:Expr}{p pos:Pos}
theorem zdp{k:Nat}{t:DTF}(hr:Room k X.A)(hg:Gl X "repr")(hm:X.mg "repr" = none)(hv:bootBuiltins "repr" = some (.builtin "repr"))(ha:DAn X [e] t)(he:starEach [e] X.env=(false,eval e X.env)::starEach [] X.env:=by rfl):DE X (.Call (.Name "repr" p) [e] [] pos) (zfa t):=by
 have hc:xm X (.builtin "repr") (λvs H Q=>∃d v,vs = [v]/\RepN X.K H d v/\ze9 d λr=>∃x,r=.str x/\∀H',H'=H->Q (.str x) H'):=λpins s σ H xs us Q I rv ⟨d,v,e,r,q⟩=>by
  subst e;obtain⟨u,rfl,r1⟩:=rv.one;have gen:Lay d->d.showable=true->d.shown.length<=sizeLine->Q (.str d.shown) H->(∃a,u=.ref a)->wpAny (model X.prog X.w) X.A (call (.builtin "repr") [u]) (EP X pins σ Q) X.xe s:=λh1 h2 h3 h4 ⟨a,ea⟩=>by
   subst ea;obtain⟨as,rd⟩:=r.reads I r1;have hu:=hr.un;have hd:=h1.deep;refine repr_of_reads' rd h2 (PyData.noDict_hsm ?_) hr.gd (by omega) (λ_ _ e=>e) (λh' u tk hk=>⟨.str d.shown,H,I.kept hk,⟨_,rfl⟩,h4⟩) h3;exact PyData.hasDict_of_canLay _ h1.can
  cases r with
  |bl=>
   cases r1;obtain⟨x,e,q⟩:=q
   cases e;exact PySem.P.repr_of_bool ⟨.str _,H,I.tok _,⟨_,rfl⟩,q H rfl⟩
  |non=>
   cases r1;obtain⟨_,_,_,x,e,q⟩:=q
   cases e;exact PySem.P.repr_of_none ⟨.str _,H,I.tok _,⟨_,rfl⟩,q H rfl⟩
  |int=>
   obtain⟨t,rfl⟩:=r1;obtain⟨_,h2,_,x,e,q⟩:=q
   cases e;exact PySem.P.repr_of_int (of_decide_eq_true (by simpa[PyData.showable]using h2)) ⟨.str _,H,I.tok _,⟨_,rfl⟩,q H rfl⟩
  |str=>
   obtain⟨t,rfl⟩:=r1;obtain⟨_,_,h3,x,e,q⟩:=q
   cases e;exact PySem.P.repr_of_str ⟨.str _,H,I.tok _,⟨_,rfl⟩,q H rfl⟩ h3
  |tup h r=>
   obtain⟨h1,h2,h3,x,e,q⟩:=q
   cases e;exact gen h1 h2 h3 (q H rfl) ⟨_,by cases r1;rfl⟩
  |lst h r=>
   obtain⟨h1,h2,h3,x,e,q⟩:=q
   cases e;exact gen h1 h2 h3 (q H rfl) ⟨_,by cases r1;rfl⟩
 refine DE.of (wb hc hg hm hv ha.pa (by decide) (by decide) he rfl) λσ H H₀ σD QD ok q=>⟨H₀,σD,_,ok,q,λvs H1 ds s1 r1 q1=>?_⟩
 match ds,r1,q1 with
 |[d],r1,q1=>
  cases r1 with
  |cons r t=>
   cases t;refine⟨d,_,rfl,r,?_⟩
   cases d with
   |bool b=>exact⟨_,rfl,λH' e=>⟨_,by subst e;exact s1,.str,q1⟩⟩
   |_=>exact⟨q1.1,q1.2.1,q1.2.2.1,_,rfl,λH' e=>⟨_,by subst e;exact s1,.str,q1.2.2.2⟩⟩
end
end L2
namespace SQ
open PySem PyProof.Rows
set_option autoImplicit false
section
variable (prog:Program)(w:World)(A:Around)(s:Shared)(κ:KeyKind)(kd:SortKind)
end
structure SG(kd:SortKind)(a₀:Array Keyed)(st:SortSt):Prop where
 perm:(arrOf st).Perm a₀
 kind:kindOf st=kd
 fail:failedOf st=none
theorem SG.sz{kd:SortKind}{a₀:Array Keyed}{st:SortSt}(g:SG kd a₀ st):(arrOf st).size=a₀.size:=g.perm.size_eq
structure Mv(lo hi:Nat)(st st':SortSt):Prop where
 out:∀k,(k<lo\/hi<=k)->(arrOf st')[k]?=(arrOf st)[k]?
 pend:pendingOf st'=pendingOf st
theorem Mv.refl(lo hi:Nat)(st:SortSt):Mv lo hi st st:=⟨λ_ _=>rfl,rfl⟩
theorem Mv.trans{lo hi:Nat}{a b c:SortSt}(h1:Mv lo hi a b)(h2:Mv lo hi b c):Mv lo hi a c:=⟨λk hk=>(h2.out k hk).trans (h1.out k hk),h2.pend.trans h1.pend⟩
theorem Mv.mono{lo hi lo' hi':Nat}{a b:SortSt}(h:Mv lo hi a b)(h1:lo'<=lo)(h2:hi<=hi'):Mv lo' hi' a b:=⟨λk hk=>h.out k (by omega),h.pend⟩
abbrev Up(κ:KeyKind)(xs:Array Keyed)(lo n:Nat):Prop:=∀i j,lo<=i->i<=j->j<lo+n->κ.kle (KK κ xs i) (KK κ xs j)
abbrev Dn(κ:KeyKind)(xs:Array Keyed)(lo n:Nat):Prop:=∀i j,lo<=i->i<=j->j<lo+n->κ.kle (KK κ xs j) (KK κ xs i)
section
variable {prog:Program}{w:World}{A:Around}{E:Value->Shared->Prop}{s:Shared}{κ:KeyKind}{kd:SortKind}{a₀:Array Keyed}
theorem SG.key{st:SortSt}(g:SG kd a₀ st)(h0:KeysOf κ a₀){i:Nat}(hi:i<a₀.size):∃x p,(arrOf st)[i]?=some (x,p)/\κ.keyOf x=some (KK κ (arrOf st) i):=by
 have l:i<(arrOf st).size:=by rw[g.sz];exact hi
 obtain⟨a,ha⟩:=h0 ((arrOf st)[i]) ((Array.perm_iff_toList_perm.mp g.perm).mem_iff.mp (by simp));have e:(arrOf st)[i]?=some (arrOf st)[i]:=getElem?_pos _ i l;refine⟨(arrOf st)[i].1,(arrOf st)[i].2,e,?_⟩;rw[ha];unfold KK;rw[e];simp[ha]
end
end SQ
namespace SQ
open PySem PyProof.Rows
set_option autoImplicit false
section
variable {prog:Program}{w:World}{A:Around}{E:Value->Shared->Prop}{s:Shared}{κ:KeyKind}{kd:SortKind}{a₀:Array Keyed}
theorem Up.next{xs:Array Keyed}{lo n:Nat}(h:Up κ xs lo n)(h1:1<=n)(c:κ.blt (KK κ xs (lo+n)) (KK κ xs (lo+n-1))=false):Up κ xs lo (n+1):=λi j a b d=>by
 by_cases e:j<lo+n
 ·exact h i j a b e
 ·have ej:j=lo+n:=by omega
  subst ej
  by_cases e2:i=lo+n
  ·subst e2;exact KeyOrd.kle_refl _
  ·exact KeyOrd.kle_trans (h i (lo+n-1) a (by omega) (by omega)) c
theorem Dn.next{xs:Array Keyed}{lo n:Nat}(h:Dn κ xs lo n)(h1:1<=n)(c:κ.kle (KK κ xs (lo+n)) (KK κ xs (lo+n-1))):Dn κ xs lo (n+1):=λi j a b d=>by
 by_cases e:j<lo+n
 ·exact h i j a b e
 ·have ej:j=lo+n:=by omega
  subst ej
  by_cases e2:i=lo+n
  ·subst e2;exact KeyOrd.kle_refl _
  ·exact KeyOrd.kle_trans c (h i (lo+n-1) a (by omega) (by omega))
end
end SQ
namespace SQ
open PySem PyProof.Rows
set_option autoImplicit false
section
variable {prog:Program}{w:World}{A:Around}{E:Value->Shared->Prop}{s:Shared}{κ:KeyKind}{kd:SortKind}
end
end SQ
namespace SQ
open PySem PyProof.Rows
set_option autoImplicit false
def kk(κ:KeyKind)(p:Keyed):κ.α:=(κ.keyOf p.1).getD κ.dflt
def le(κ:KeyKind)(x y:Keyed):Prop:=κ.kle (kk κ x) (kk κ y)
theorem le_refl{κ:KeyKind}(x:Keyed):le κ x x:=KeyOrd.kle_refl _
theorem le_trans{κ:KeyKind}{x y z:Keyed}(a:le κ x y)(b:le κ y z):le κ x z:=KeyOrd.kle_trans a b
def AllK(κ:KeyKind)(xs:Array Keyed):Prop:=∀p∈xs.toList,κ.keyOf p.1=some (kk κ p)
abbrev Srt(κ:KeyKind)(xs:Array Keyed):Prop:=xs.toList.Pairwise (le κ)
theorem Srt.at{κ:KeyKind}{xs:Array Keyed}(h:Srt κ xs){i j:Nat}{p r:Keyed}(hij:i<=j)(e1:xs[i]?=some p)(e2:xs[j]?=some r):le κ p r:=by
 obtain⟨l1,rfl⟩:=Array.getElem?_eq_some_iff.mp e1;obtain⟨l2,rfl⟩:=Array.getElem?_eq_some_iff.mp e2
 by_cases c:i=j
 ·subst c;exact le_refl _
 ·have:=List.pairwise_iff_getElem.mp h i j (by simpa using l1) (by simpa using l2) (by omega);simpa using this
structure MI(κ:KeyKind)(a b out:Array Keyed)(ia ib:Nat):Prop where
 perm:out.toList.Perm (a.toList.take ia++b.toList.take ib)
 sort:out.toList.Pairwise (le κ)
 la:∀x∈out.toList,∀y∈a.toList.drop ia,le κ x y
 lb:∀x∈out.toList,∀y∈b.toList.drop ib,le κ x y
theorem zg6{α:Type}{xs:List α}{i:Nat}{p:α}(e:xs[i]?=some p):xs.drop i=p::xs.drop (i+1):=by
 obtain⟨l,rfl⟩:=List.getElem?_eq_some_iff.mp e;exact List.drop_eq_getElem_cons l
section
variable {κ:KeyKind}{a b out:Array Keyed}{ia ib:Nat}
theorem zqr{xs:Array Keyed}{i:Nat}{p:Keyed}(e:xs[i]?=some p):xs.toList[i]?=some p:=by simpa using e
theorem Srt.rest{xs:Array Keyed}(h:Srt κ xs){i:Nat}{p:Keyed}(e:xs[i]?=some p):∀y∈xs.toList.drop i,le κ p y:=by
 have h2:=h.drop (i:=i);rw[zg6 (zqr e)]at h2 ⊢;intro y hy;rcases List.mem_cons.mp hy with rfl|hy
 ·exact le_refl _
 ·exact(List.pairwise_cons.mp h2).1 y hy
def Mg(κ:KeyKind)(a b r:Array Keyed):Prop:=r.toList.Perm (a.toList++b.toList)/\r.toList.Pairwise (le κ)
end
structure Gm(st st':SortSt):Prop where
 k:kindOf st'=kindOf st
 a:arrOf st'=arrOf st
 p:pendingOf st'=pendingOf st
 f:failedOf st'=failedOf st
theorem Gm.refl(st:SortSt):Gm st st:=⟨rfl,rfl,rfl,rfl⟩
theorem Gm.trans{x y z:SortSt}(h:Gm x y)(g:Gm y z):Gm x z:=⟨g.k.trans h.k,g.a.trans h.a,g.p.trans h.p,g.f.trans h.f⟩
section
variable {prog:Program}{w:World}{A:Around}{E:Value->Shared->Prop}{s:Shared}{κ:KeyKind}{kd:SortKind}
end
end SQ
namespace SQ
open PySem PyProof.Rows
set_option autoImplicit false
section
variable {prog:Program}{w:World}{A:Around}{E:Value->Shared->Prop}{s:Shared}{κ:KeyKind}{kd:SortKind}
theorem st5{α β γ δ ε C:Type}{lo hi:Nat}{z:SortSt}{F:α->β->γ->δ->ε->C}{P:Nat->α->β->γ->δ->ε->Prop}{G:Nat->C->SortSt->Prop}(h:∀x,lo<=x->x<hi->∀a b c d e,P x a b c d e->G x (F a b c d e) z):∀x c z',lo<=x->x<hi->(z=z'/\∃a b i d e,c=F a b i d e/\P x a b i d e)->G x c z':=by
 intro x c z' h1 h2 e;obtain⟨rfl,a,b,i,d,e,rfl,p⟩:=e;exact h x h1 h2 a b i d e p
end
end SQ
namespace SQ
open PySem PyProof.Rows
set_option autoImplicit false
structure MH(κ:KeyKind)(a b out:Array Keyed)(na nb:Nat):Prop where
 perm:out.toList.reverse.Perm (a.toList.drop na++b.toList.drop nb)
 sort:out.toList.reverse.Pairwise (le κ)
 la:∀x∈a.toList.take na,∀y∈out.toList.reverse,le κ x y
 lb:∀x∈b.toList.take nb,∀y∈out.toList.reverse,le κ x y
section
variable {κ:KeyKind}{a b out:Array Keyed}{na nb:Nat}
theorem ku(xs:Array Keyed)(n:Nat):(xs.extract 0 n).toList=xs.toList.take n:=by
 rw[Array.toList_extract,List.extract_eq_take_drop,List.drop_zero,Nat.sub_zero]
theorem zlm{α:Type}{o x y u v:List α}(h:o.Perm (x++y)):(u++v++o).Perm ((u++x)++(v++y)):=by
 refine(List.Perm.append_left _ h).trans ?_;rw[List.append_assoc,List.append_assoc u x];refine List.Perm.append_left u ?_;rw[<-List.append_assoc,<-List.append_assoc];exact List.Perm.append_right y List.perm_append_comm
theorem MH.first(m:MH κ a b out na nb)(sa:Srt κ a)(sb:Srt κ b)(h:∀x∈b.toList.take nb,∀y∈a.toList,le κ x y):Mg κ a b (b.extract 0 nb++a.extract 0 na++out.reverse):=by
 refine⟨?_,?_⟩
 ·rw[Array.toList_append,Array.toList_append,ku,ku,Array.toList_reverse];have:=zlm (u:=b.toList.take nb) (v:=a.toList.take na) (m.perm.trans List.perm_append_comm);rw[List.take_append_drop,List.take_append_drop]at this;exact this.trans List.perm_append_comm
 ·rw[Array.toList_append,Array.toList_append,ku,ku,Array.toList_reverse];refine List.pairwise_append.mpr ⟨List.pairwise_append.mpr ⟨sb.take,sa.take,λx hx y hy=>h x hx y (List.mem_of_mem_take hy)⟩,m.sort,λx hx y hy=>?_⟩;rcases List.mem_append.mp hx with hx|hx
  ·exact m.lb x hx y hy
  ·exact m.la x hx y hy
end
section
variable {prog:Program}{w:World}{A:Around}{E:Value->Shared->Prop}{s:Shared}{κ:KeyKind}{kd:SortKind}
end
end SQ
namespace SQ
open PySem PyProof.Rows
set_option autoImplicit false
section
variable {prog:Program}{w:World}{A:Around}{E:Value->Shared->Prop}{s:Shared}{κ:KeyKind}{kd:SortKind}{a₀:Array Keyed}
theorem AllK.of{xs:Array Keyed}(h:∀p∈xs.toList,∃a,κ.keyOf p.1=some a):AllK κ xs:=λp hp=>by
 obtain⟨a,e⟩:=h p hp;unfold kk;rw[e];rfl
end
end SQ
namespace SQ
open PySem PyProof.Rows
set_option autoImplicit false
section
variable {prog:Program}{w:World}{A:Around}{E:Value->Shared->Prop}{s:Shared}{κ:KeyKind}{kd:SortKind}{a₀:Array Keyed}
end
end SQ
namespace SQ
open PySem PyProof.Rows
set_option autoImplicit false
def Cov(κ:KeyKind)(xs:Array Keyed):Nat->List (Nat×Nat×Nat)->Nat->Prop
 |at_,[],hi=>at_=hi
 |at_,(b,n,_)::r,hi=>b=at_/\1<=n/\Up κ xs at_ n/\Cov κ xs (at_+n) r hi
section
variable {κ:KeyKind}
theorem Cov.le{xs:Array Keyed}:∀{l:List (Nat×Nat×Nat)}{at_ hi:Nat},Cov κ xs at_ l hi->at_+l.length<=hi
 |[],at_,hi,h=>by have:at_=hi:=h;simp;omega
 |(b,n,p)::r,at_,hi,h=>by
  obtain⟨_,h1,_,h2⟩:=h;have:=h2.le;simp only[List.length_cons];omega
end
section
variable {prog:Program}{w:World}{A:Around}{E:Value->Shared->Prop}{s:Shared}{κ:KeyKind}{kd:SortKind}{a₀:Array Keyed}
end
end SQ
namespace SQ
open PySem PyProof.Rows
set_option autoImplicit false
section
variable {prog:Program}{w:World}{A:Around}{E:Value->Shared->Prop}{s:Shared}
end
end SQ
namespace SQ
open PySem PyProof.Rows
set_option autoImplicit false
@[reducible] def zsk:KeyKind where
 α:=Int
 blt a b:=decide (a<b)
 irrefl a:=by simp
 trans a b c h1 h2:=by simp only[decide_eq_true_eq]at *;omega
 negTrans a b c h:=by simp only[decide_eq_true_eq]at *;omega
 total a b h1 h2:=by simp only[decide_eq_false_iff_not]at *;omega
 keyOf v:=match v with|.int i _=>some i|_=>none
 dflt:=0
def RefIs(h:Heap)(v:Value)(is:List Int):Prop:=∃a its,v=.ref a/\IsTup h a its/\IntsAre its.toList is
theorem RefIs.keep{h h':Heap}{v:Value}{is:List Int}(k:∀b o,h.get? b=some o->h'.get? b=some o)(x:RefIs h v is):RefIs h' v is:=by
 obtain⟨a,its,e,t,i⟩:=x;exact⟨a,its,e,t.keeps k,i⟩
open Classical in
noncomputable def refKey (h:Heap) (v:Value):Option (List Int):=if x:∃is,RefIs h v is then some x.choose else none
@[reducible] noncomputable def zry (h:Heap):KeyKind where
 α:=List Int
 blt a b:=decide (a<b)
 irrefl a:=by simpa using List.lt_irrefl a
 trans a b c h1 h2:=by simp only[decide_eq_true_eq]at *;exact List.lt_trans h1 h2
 negTrans a b c h:=by
  simp only[decide_eq_true_eq]at *
  by_cases c:a<b
  ·exact .inl c
  ·exact .inr (List.lt_of_le_of_lt (List.not_lt.mp c) h)
 total a b h1 h2:=by simp only[decide_eq_false_iff_not]at *;exact List.le_antisymm (List.not_lt.mp h2) (List.not_lt.mp h1)
 keyOf v:=refKey h v
 dflt:=[]
section
variable {prog:Program}{w:World}{A:Around}{E:Value->Shared->Prop}{s:Shared}
end
end SQ
namespace SQ
open PySem PyProof.Rows
set_option autoImplicit false
inductive All2{α β:Type}(R:α->β->Prop):List α->List β->Prop
 |nil:All2 R [] []
 |cons {a:α}{b:β}{as:List α}{bs:List β} (h:R a b) (t:All2 R as bs):All2 R (a::as) (b::bs)
theorem All2.len{α β:Type}{R:α->β->Prop}{as:List α}{bs:List β}(h:All2 R as bs):as.length=bs.length:=by
 induction h with
 |nil=>rfl
 |cons _ _ ih=>simp[ih]
section
variable {prog:Program}{w:World}{A:Around}{E:Value->Shared->Prop}{s:Shared}
end
end SQ
namespace L2
open PySem PySem.Spec PyProof.Rows SQ
section
variable {X:Cx}
end
end L2
namespace L2
open PySem PySem.Spec PyProof.Rows
namespace RV
theorem zrz:Manifest.owners.lookup (String.ofList ['d','e','s','r','e','v','e','r'].reverse)=some Manifest.sig_reversed:=by kernel_rfl
theorem sNext:Slot "reversed" "__next__" "reversed.__next__" := .of (owner := "reversed") (n := "__next__") (by rw[typeLookup_type,builtinLookup_eq_fast];kernel_rfl) (by decide +kernel) (by decide +kernel) (by decide +kernel) (by first|exact .inl (by decide +kernel)|exact .inr (by decide +kernel)) (by rw[isSubtype_type];kernel_rfl)
theorem zmp:Slot "reversed" "__iter__" "reversed.__iter__" := .of (owner := "reversed") (n := "__iter__") (by rw[typeLookup_type,builtinLookup_eq_fast];kernel_rfl) (by decide +kernel) (by decide +kernel) (by decide +kernel) (by first|exact .inl (by decide +kernel)|exact .inr (by decide +kernel)) (by rw[isSubtype_type];kernel_rfl)
theorem zqs(a:Value):argsOk "reversed.__iter__" ⟨[a],[]⟩:=by
 unfold argsOk;rw[signature?_of (id := "reversed.__iter__") (n:=['_','_','r','e','t','i','_','_']) (o:=['d','e','s','r','e','v','e','r']) (by kernel_rfl) zrz];kernel_rfl
theorem zqt:entryFor table "reversed.__iter__" = some Builtin.«dict_keyiterator.__iter__»:=entryFor_alias (id' := "dict_keyiterator.__iter__") (by kernel_rfl) (by first|rfl|decide +kernel |(unfold String.splitOn;simp +decide [String.splitOnAux])) (by decide +kernel) (by kernel_rfl)
end RV
namespace RV
def ob(l:Addr)(i:Int):Obj:={ cls:=.type "reversed",data:=.fields #[.ref l,rawInt i] }
def Is(h:Heap)(a l:Addr)(i:Int):Prop:=∃o,h.get? a=some o/\o.cls=.type "reversed" /\ o.data=.fields #[.ref l,rawInt i]
theorem Is.typeIs{s:Shared}{a l:Addr}{i:Int}(x:Is s.heap a l i):s.TypeIs (.ref a) "reversed" := let ⟨o,ho,hc,_⟩:=x;⟨o,ho,hc⟩
theorem Is.at{h h':Heap}{a l:Addr}{i:Int}(x:Is h a l i)(e:∀o,h.get? a=some o->h'.get? a=some o):Is h' a l i:=let ⟨o,ho,r⟩:=x;⟨o,e _ ho,r⟩
section
variable {prog:Program}{w:World}{A:Around}{E:Value->Shared->Prop}{s:Shared}
theorem iter{it l:Addr}{i:Int}{Q:Value->Shared->Prop}(hit:Is s.heap it l i)(h:Q (.ref it) s):wpAny (model prog w) A (pyIter (.ref it)) Q E s:=by
 refine wpAny_pyIter_slot hit.typeIs zmp (wpAny_call_entry zmp hit.typeIs zqt ?_ (zqs _));show wpAny _ _ (ret (.ref it)) _ _ s;exact wpAny_pure ⟨_,rfl, "reversed",_,hit.typeIs,sNext.lookup,h⟩
end
end RV
section
variable {X:Cx}{tg a:Expr}{t:DTF}{p pos:Pos}
end
section
variable {X:Cx}{a:Expr}{p pos p2 pos2:Pos}
end
def zr0(TI TO:Addr)(old fl:Value):Obj:={ cls:=.type "zip",dict:=none,data:=.fields #[old,fl,.bool false,.ref TI,.ref TO],slots:=#[] }
def IsZ(h:Heap)(z TI TO:Addr)(old fl:Value):Prop:=h.get? z=some (zr0 TI TO old fl)
def zr5(old:Value):Prop:=old=.none\/∃p:Addr,old=rawInt p
section
variable {prog:Program}{w:World}{A:Around}{E:Value->Shared->Prop}{s:Shared}
end
def ZSt(b1 b2:Bool)(z TI TO i1 i2 l1 l2:Addr)(k:Nat)(h:Heap):Prop:=∃old fl a b,IsZ h z TI TO old fl/\zr5 old/\IsPair h TI (.ref i1) (.ref i2)/\IsPair h TO a b/\zIt b1 h i1 l1 k/\zIt b2 h i2 l2 k
theorem ZSt.keep{b1 b2:Bool}{z TI TO i1 i2 l1 l2:Addr}{k:Nat}{h h':Heap}(st:ZSt b1 b2 z TI TO i1 i2 l1 l2 k h)(kp:∀b ∈ [z,TI,TO,i1,i2],∀o,h.get? b=some o->h'.get? b=some o):ZSt b1 b2 z TI TO i1 i2 l1 l2 k h':=by
 obtain⟨old,fl,a,b,hz,ho,hI,hO,h1,h2⟩:=st;exact⟨old,fl,a,b,kp _ (by simp) _ hz,ho,kp _ (by simp) _ hI,kp _ (by simp) _ hO,h1.at λo e=>kp i1 (by simp) o e,h2.at λo e=>kp i2 (by simp) o e⟩
section
variable {prog:Program}{w:World}{A:Around}{E:Value->Shared->Prop}{s:Shared}
end
section
variable {prog:Program}{w:World}{A:Around}{E:Value->Shared->Prop}{s:Shared}
end
section
variable {X:Cx}{a b:Expr}{p pos p2 pos2:Pos}{elts:List Expr}{tpos:Pos}
end
section
variable {X:Cx}
variable {o e:Expr}{to te:DTE}{apos cpos:Pos}
end
section
variable {X:Cx}{e:Expr}{tf:DTF}{pos:Pos}
end
section
variable (P:Program)(w:World)
end
section
variable {P:Program}{w:World}{H H':Hp}{h h':Heap}{a:Addr}{o:HO}
end
section
variable {P:Program}{w:World}{H:Hp}{h h':Heap}{x e:Addr}{o':HO}
end
section
variable {fs fs' ex ex':List Addr}{H H1 H2:Hp}{h h1 h2 h':Heap}{a x e:Addr}{o:HO}
end
section
variable {X:Cx}{pins:List (Addr×Obj)}{σ:List (Option V)}{H H':Hp}{s:Shared}{h':Heap}
end
section
variable {X:Cx}
variable {a b:Expr}{ta tb:TE}{pos:Pos}
variable {tA tB':TT}{rest:List Expr}
end
section
variable {X:Cx}{pins:List (Addr×Obj)}{σ:St}{H:Hp}{s:Shared}{a:Addr}{xs ys:List V}
end
section
variable {X:Cx}{pins:List (Addr×Obj)}{σ:St}{H:Hp}{s:Shared}{E:Value->Shared->Prop}
end
section
variable {X:Cx}{st:Stmt}{rest:List Stmt}{t u:TS}{e:Expr}{te:TE}{pos:Pos}
end
section
variable {X:Cx}{pos:Pos}
end
section
variable {X:Cx}{pos:Pos}
end
section
variable {X:Cx}{tg:Expr}
end
section
variable {X:Cx}{a b c:Expr}{ta tb tc:TE}{pos:Pos}
end
section
variable {X:Cx}{a b c:Expr}{ta tb tc:TE}{pos:Pos}
end
section
variable {prog:Program}{w:World}{A:Around}{E:Value->Shared->Prop}{s:Shared}{K:PySem.W.Frag}{x dx C f:Addr}{mA:Str->Option Value}{name:Str}{v:Value}
end
section
variable {P:Program}{w:World}{H H':Hp}{h h':Heap}{a C dx:Addr}{fs fs':List (Str×V)}
end
section
variable {X:Cx}{pins:List (Addr×Obj)}{σ:St}{H:Hp}{s:Shared}{a C dx:Addr}{fs:List (Str×V)}{f:Str}{v:V}{A:Around}{E:Value->Shared->Prop}
end
section
variable {X:Cx}{o e value:Expr}{f:Str}{pos pos' tpos:Pos}{ta tv:TE}
end
section
variable {X:Cx}{pins:List (Addr×Obj)}{σ:St}{H:Hp}{s:Shared}{A:Around}{E:Value->Shared->Prop}{Q:Value->Shared->Prop}{c:Value}{b:Bool}
end
section
variable {X:Cx}{e:Expr}{es:List Expr}{te:TE}{t:TA}{pos:Pos}
end
section
variable {X:Cx}{pins:List (Addr×Obj)}{σ:St}{H:Hp}{s s':Shared}
end
section
variable {X:Cx}{CX:CXT}{k:Nat}{f C:Addr}{fd:FuncData}{ps:List Str}{sp:Sp}{dvs:List V}{ds:List Value}{E:XK}{x m:Str}{p pos apos:Pos}{e o:Expr}{es:List Expr}{ta:TE}{t:TA}
end
section
variable {X:Cx}{CX:CXT}{k:Nat}{f C:Addr}{fd:FuncData}{ps ks:List Str}{sp:Sp}{E:XK}{x m:Str}{p pos apos kpos:Pos}{e o:Expr}{es:List Expr}{kws:List Keyword}{te ta:TE}{t tk:TA}{nm:Option Str}
variable {g:List Value->List Value->List Value}{gV:List V->List V->List V}
end
section
variable {X:Cx}{x:Str}{p pos:Pos}{e:Expr}{es:List Expr}{t:TA}{id T:String}{r:List V->Hp->VK->Prop}
end
section
variable {κ:Type}[DecidableEq κ]
def j4(kvs:List (κ×V))(k:κ):Option V:=(kvs.find? λkv=>decide (kv.1=k)).map (·.2)
def qc(kvs:List (κ×V))(k:κ)(v:V):List (κ×V) :=
 if (kvs.any λkv=>decide (kv.1=k))=true then kvs.map (λkv=>if kv.1=k then (kv.1,v) else kv) else kvs ++ [(k,v)]
def zmq(kvs:List (κ×V))(k:κ):List (κ×V):=kvs.filter λkv=>decide (kv.1≠k)
theorem zaq{p:κ×V}{r:List (κ×V)}{k:κ}(e:p.1=k):j4 (p::r) k=some p.2:=by simp[j4,List.find?_cons,e]
theorem zar{p:κ×V}{r:List (κ×V)}{k:κ}(e:¬ p.1=k):j4 (p::r) k=j4 r k:=by simp[j4,List.find?_cons,e]
theorem zdq(k:κ):∀kvs:List (κ×V),(kvs.any λkv=>decide (kv.1=k))=(j4 kvs k).isSome
 |[]=>rfl
 |p::r=>by
  rw[List.any_cons]
  by_cases e:p.1=k
  ·simp only[zaq e,decide_eq_true e,Bool.true_or,Option.isSome_some]
  ·rw[zar e,decide_eq_false e,Bool.false_or];exact zdq k r
theorem zdr(kvs:List (κ×V))(k:κ)(v:V):(qc kvs k v).length<=kvs.length+1:=by
 unfold qc
 split
 ·rw[List.length_map];omega
 ·rw[List.length_append,List.length_cons,List.length_nil];omega
theorem RelO.isSome_eq{o:Option V}{u:Option Value}(r:RelO o u):o.isSome=u.isSome:=by
 cases o with
 |none=>cases u with
  |none=>rfl
  |some _=>exact(show False from r).elim
 |some _=>cases u with
  |none=>exact(show False from r).elim
  |some _=>rfl
theorem RelO.getD{o:Option V}{u:Option Value}{d:V}{d':Value}(r:RelO o u)(rd:RelV d d'):RelV (o.getD d) (u.getD d'):=by
 cases o with
 |none=>cases u with
  |none=>exact rd
  |some _=>exact(show False from r).elim
 |some _=>cases u with
  |none=>exact(show False from r).elim
  |some _=>exact r
theorem KV.val{kvs:List (κ×V)}{vs:List (κ×Value)}(r:KV kvs vs)(k:κ):RelO (j4 kvs k) (valueAt vs k):=by
 unfold KV at r
 induction r with
 |nil=>exact True.intro
 |@cons p q ps qs h t ih=>
  obtain⟨h1,h2⟩:=h
  by_cases e:p.1=k
  ·have e':q.1=k:=h1.symm.trans e;have b:valueAt (q::qs) k=some q.2:=by simp[valueAt,List.find?_cons,e']
   rw[zaq e,b];exact h2
  ·have e':¬ q.1=k:=λz=>e (h1.trans z);have b:valueAt (q::qs) k=valueAt qs k:=by simp[valueAt,List.find?_cons,e']
   rw[zar e,b];exact ih
theorem KV.any{kvs:List (κ×V)}{vs:List (κ×Value)}(r:KV kvs vs)(k:κ):(kvs.any λkv=>decide (kv.1=k))=vs.any λkv=>decide (kv.1=k):=by
 unfold KV at r
 induction r with
 |nil=>rfl
 |cons h t ih=>rw[List.any_cons,List.any_cons,ih,h.1]
theorem KV.repl{kvs:List (κ×V)}{vs:List (κ×Value)}(r:KV kvs vs)(k:κ){y:V}{u:Value}(ry:RelV y u):
  KV (kvs.map λkv=>if kv.1=k then (kv.1,y) else kv) (vs.map λkv=>if kv.1=k then (kv.1,u) else kv):=by
 unfold KV at r ⊢
 induction r with
 |nil=>exact .nil
 |@cons p q ps qs h t ih=>
  rw[List.map_cons,List.map_cons];refine .cons ?_ ih;obtain⟨h1,h2⟩:=h
  by_cases e:p.1=k
  ·rw[if_pos e,if_pos (h1.symm.trans e)];exact⟨h1,ry⟩
  ·rw[if_neg e,if_neg (λz=>e (h1.trans z))];exact⟨h1,h2⟩
theorem KV.put{kvs:List (κ×V)}{vs:List (κ×Value)}(r:KV kvs vs)(k:κ){y:V}{u:Value}(ry:RelV y u):KV (qc kvs k y) (stored vs k u):=by
 unfold qc stored;rw[r.any k]
 by_cases e:(vs.any λkv=>decide (kv.1=k))=true
 ·rw[if_pos e,if_pos e];exact r.repl k ry
 ·rw[if_neg e,if_neg e];exact Paired.snoc r ⟨rfl,ry⟩
theorem KV.drop{kvs:List (κ×V)}{vs:List (κ×Value)}(r:KV kvs vs)(k:κ):KV (zmq kvs k) (without vs k):=by
 unfold KV at r ⊢;unfold zmq without
 induction r with
 |nil=>exact .nil
 |@cons p q ps qs h t ih=>
  obtain⟨h1,h2⟩:=h;rw[List.filter_cons,List.filter_cons]
  by_cases e:p.1=k
  ·have a:¬ decide (p.1≠k)=true:=by simp[e]
   have b:¬ decide (q.1≠k)=true:=by simp[h1.symm.trans e]
   rw[if_neg a,if_neg b];exact ih
  ·have e':¬ q.1=k:=λz=>e (h1.trans z);have a:decide (p.1≠k)=true:=by simp[e]
   have b:decide (q.1≠k)=true:=by simp[e']
   rw[if_pos a,if_pos b];exact .cons ⟨h1,h2⟩ ih
theorem KV.length{kvs:List (κ×V)}{vs:List (κ×Value)}(r:KV kvs vs):kvs.length=vs.length:=Paired.length r
end
theorem zqu{P:Program}{w:World}{k:Key}{u:Value}(r:RelV (kV k) u):(y8 P w).is k u=true:=by
 cases k with
 |inl i=>obtain⟨t,e⟩:=(show ∃t,u=Value.int i t from r);subst e;exact zc7 P w i t
 |inr x=>obtain⟨t,e⟩:=(show ∃t,u=Value.str x t from r);subst e;exact zc8 P w x t
abbrev KT(H:Hp):List (List Key×V)->List (List Key×Addr×Value)->Prop:=Paired λp q=>p.1=q.1/\H q.2.1=some (.tup (p.1.map kV))/\RelV p.2 q.2.2
theorem KT.val{H:Hp}{kvs:List (List Key×V)}{xs:List (List Key×Addr×Value)}(r:KT H kvs xs)(k:List Key):RelO (j4 kvs k) ((atKey xs k).map (·.2)):=by
 induction r with
 |nil=>exact True.intro
 |@cons p q ps qs h t ih=>
  obtain⟨h1,_,h2⟩:=h
  by_cases e:p.1=k
  ·have e':q.1=k:=h1.symm.trans e;have b:atKey (q::qs) k=some q.2:=by simp[atKey,List.find?_cons,e']
   rw[zaq e,b];exact h2
  ·have e':¬ q.1=k:=λz=>e (h1.trans z);have b:atKey (q::qs) k=atKey qs k:=by simp[atKey,List.find?_cons,e']
   rw[zar e,b];exact ih
theorem KT.repl{H:Hp}{kvs:List (List Key×V)}{xs:List (List Key×Addr×Value)}(r:KT H kvs xs)(k:List Key){y:V}{u:Value}(ry:RelV y u):
  KT H (kvs.map λkv=>if kv.1=k then (kv.1,y) else kv) (xs.map (putAt k u)):=by
 induction r with
 |nil=>exact .nil
 |@cons p q ps qs h t ih=>
  rw[List.map_cons,List.map_cons];refine .cons ?_ ih;obtain⟨h1,h2,h3⟩:=h;unfold putAt
  by_cases e:p.1=k
  ·rw[if_pos e,if_pos (h1.symm.trans e)];exact⟨h1,h2,ry⟩
  ·rw[if_neg e,if_neg (λz=>e (h1.trans z))];exact⟨h1,h2,h3⟩
theorem KT.put{H:Hp}{kvs:List (List Key×V)}{xs:List (List Key×Addr×Value)}(r:KT H kvs xs)(k:List Key){b:Addr}{y:V}{u:Value}(hb:H b=some (.tup (k.map kV)))(ry:RelV y u):
  KT H (qc kvs k y) (storedH xs k b u):=by
 have e:(kvs.any λkv=>decide (kv.1=k))=(atKey xs k).isSome:=by
  rw[zdq,(r.val k).isSome_eq,Option.isSome_map]
 unfold qc storedH;rw[e]
 by_cases q:(atKey xs k).isSome=true
 ·rw[if_pos q,if_pos q];exact r.repl k ry
 ·rw[if_neg q,if_neg q];exact Paired.snoc r ⟨rfl,hb,ry⟩
theorem KT.keeps{H H':Hp}{kvs:List (List Key×V)}{xs:List (List Key×Addr×Value)}(r:KT H kvs xs)(ht:∀b ys,H b=some (.tup ys)->H' b=some (.tup ys)):KT H' kvs xs :=
 Paired.mapP r λ_ _ z=>⟨z.1,ht _ _ z.2.1,z.2.2⟩
section
variable {P:Program}{w:World}{H:Hp}{h:Heap}{a:Addr}
theorem zqv{u:HO}(ok:HOk P w H h)(e:Rd H a u):ObjOk P w H h a u:=e.ok ok
theorem zqw{kvs:List (Key×V)}(ok:HOk P w H h)(e:Rd H a (.dK kvs)):kvs.length<=sizeLine/\(a == sysModules)=false/\∃vs,KV kvs vs/\h.DictOf (y8 P w) a vs :=
 show ObjOk P w H h a (.dK kvs) from zqv ok e
theorem zqx{kvs:List (Key×V)}(ok:HOk P w H h)(e:H a=some (.dK kvs)):kvs.length<=sizeLine/\(a == sysModules)=false/\∃vs,KV kvs vs/\h.DictOf (y8 P w) a vs:=zqw ok (.inl e)
end
def DGet(H:Hp)(a:Addr)(y:V)(r:Option V):Prop :=
 (∃kvs k,Rd H a (.dK kvs)/\y=kV k/\r=j4 kvs k)\/∃kvs k b,Rd H a (.dT kvs)/\y=.ref b/\H b=some (.tup (k.map kV))/\r=j4 kvs k
def DPut(H:Hp)(a:Addr)(y v:V)(H':Hp):Prop :=
 (∃kvs k,H a=some (.dK kvs)/\y=kV k/\kvs.length<sizeLine/\H'=upd H a (.dK (qc kvs k v))) \/
 ∃kvs k b,H a=some (.dT kvs)/\y=.ref b/\H b=some (.tup (k.map kV))/\kvs.length<sizeLine/\H'=upd H a (.dT (qc kvs k v))
theorem DGet.k{H:Hp}{a:Addr}{kvs:List (Key×V)}{k:Key}(e:H a=some (.dK kvs)):DGet H a (kV k) (j4 kvs k):=.inl ⟨kvs,k,.inl e,rfl,rfl⟩
theorem DGet.t{H:Hp}{a b:Addr}{kvs:List (List Key×V)}{k:List Key}(e:H a=some (.dT kvs))(eb:H b=some (.tup (k.map kV))):DGet H a (.ref b) (j4 kvs k):=.inr ⟨kvs,k,b,.inl e,rfl,eb,rfl⟩
theorem DPut.k{H:Hp}{a:Addr}{kvs:List (Key×V)}{k:Key}{v:V}(e:H a=some (.dK kvs))(hl:kvs.length<sizeLine):DPut H a (kV k) v (upd H a (.dK (qc kvs k v))):=.inl ⟨kvs,k,e,rfl,hl,rfl⟩
theorem DPut.t{H:Hp}{a b:Addr}{kvs:List (List Key×V)}{k:List Key}{v:V}(e:H a=some (.dT kvs))(eb:H b=some (.tup (k.map kV)))(hl:kvs.length<sizeLine):
  DPut H a (.ref b) v (upd H a (.dT (qc kvs k v))):=.inr ⟨kvs,k,b,e,rfl,eb,hl,rfl⟩
section
variable {X:Cx}{pins:List (Addr×Obj)}{σ:St}{H:Hp}{s:Shared}{a:Addr}{y v:V}{u r:Value}{o:Option V}{A:Around}{E:Value->Shared->Prop}
theorem Inv.big(I:Inv X pins σ H s):sysModules<s.heap.objs.size:=by
 have h:mainGlobals<s.heap.objs.size:=(I.mod.glob.keeps I.bk).lt;exact Nat.lt_trans (by decide) h
theorem zln{h':Heap}{t':Nat}{ob:HO}(I:Inv X pins σ H s)(mu:Mut (H a))(hs:Heap.SameBut a s.heap h')(he:∃q,h'.get? a=some q)(new:ObjOk X.prog X.w (upd H a ob) h' a ob):
  Inv X pins σ (upd H a ob) { s with heap:=h',toks:=t' } :=
 I.write (x:=a) (e:=a) mu (.inl rfl) (λb q hb z=>(hs.2 b hb).trans z) he new
theorem zov{P:Program}{w:World}{H':Hp}{h':Heap}{kvs:List (Key×V)}{vs:List (Key×Value)}(z:kvs.length<=sizeLine)(hd:(a == sysModules)=false)(rel:KV kvs vs)(dd:h'.DictOf (y8 P w) a vs):
  ObjOk P w H' h' a (.dK kvs):=⟨z,hd,vs,rel,dd⟩
end
section
variable {X:Cx}{pins:List (Addr×Obj)}{σ:St}{H:Hp}{s:Shared}{a:Addr}{kvs:List (Key×V)}{k:Key}{u:Value}{A:Around}{E:Value->Shared->Prop}
end
section
variable {X:Cx}{o i e value:Expr}{pos pos' tpos:Pos}{td ty tv:TE}
end
theorem zjd{P:Program}{w:World}{H:Hp}(h:Heap)(hb:sysModules<h.objs.size):ObjOk P w H (h.push { cls:=.type "dict",data:=.dict #[] }) h.objs.size (.dK []) :=
 ⟨Nat.zero_le _,beq_eq_false_iff_ne.mpr (Ne.symm (Nat.ne_of_lt hb)),[],.nil,Heap.DictOf.new h⟩
section
variable {X:Cx}{pos:Pos}
end
def zfb:List (TE×TE)->St->Hp->(List (V×V)->Hp->Prop)->Prop
 |[],_,H,Q=>Q [] H
 |(tk,tv)::r,σ,H,Q=>tk σ H λx H1=>tv σ H1 λy H2=>zfb r σ H2 λps H3=>Q ((x,y)::ps) H3
abbrev VV:List (V×V)->List (Value×Value)->Prop:=Paired λp q=>RelV p.1 q.1/\RelV p.2 q.2
def PPs(X:Cx)(pos:Pos)(keys:List (Option Expr))(values:List Expr)(trs:List (TE×TE)):Prop :=
 ∀(pins:List (Addr×Obj)) (s:Shared) (σ:St) (H:Hp) (Q:List (V×V)->Hp->Prop),Inv X pins σ H s->zfb trs σ H Q ->
  wpAny (model X.prog X.w) X.A (evalPairs (pairTrees keys values X.env pos)) (λvs s'=>∃ps H',Inv X pins σ H' s'/\VV ps vs/\Q ps H') X.xe s
theorem zlo{X:Cx}{pos:Pos}:PPs X pos [] [] []:=λpins s σ H Q I h=>pairTrees_nil_walk ⟨[],H,I,.nil,h⟩
theorem zje{X:Cx}{pos:Pos}{k v:Expr}{ks:List (Option Expr)}{vs:List Expr}{tk tv:TE}{trs:List (TE×TE)}(hk:PE X k tk)(hv:PE X v tv)(hr:PPs X pos ks vs trs):
  PPs X pos (some k::ks) (v::vs) ((tk,tv)::trs):=λpins s σ H Q I h=>
 pairTrees_cons_walk (thn (hk pins s σ H _ I h) λu s1 ⟨x,H1,I1,rx,q1⟩=>thn (hv pins s1 σ H1 _ I1 q1) λw2 s2 ⟨y,H2,I2,ry,q2⟩=>
  thn (hr pins s2 σ H2 _ I2 q2) λws s3 ⟨ps,H3,I3,rel,q3⟩=>⟨(x,y)::ps,H3,I3,.cons ⟨rx,ry⟩ rel,q3⟩)
def zas(kvs more:List (Key×V)):List (Key×V):=more.foldl (λacc kv=>qc acc kv.1 kv.2) kvs
theorem KV.merge:∀{more:List (Key×V)}{rs:List (Key×Value)}{kvs:List (Key×V)}{vs:List (Key×Value)},KV more rs->KV kvs vs->KV (zas kvs more) (merged vs rs):=by
 intro more rs kvs vs r;unfold KV at r
 induction r generalizing kvs vs with
 |nil=>intro q;exact q
 |@cons p q ps qs h t ih=>
  intro r0;have e:KV (qc kvs p.1 p.2) (stored vs q.1 q.2):=by
   have:=r0.put p.1 h.2;rw[<-h.1];exact this
  exact ih e
theorem qh:∀(more kvs:List (Key×V)),(zas kvs more).length<=kvs.length+more.length
 |[],kvs=>by show kvs.length<=kvs.length+0;omega
 |p::r,kvs=>by
  have h1:=qh r (qc kvs p.1 p.2);have h2:=zdr kvs p.1 p.2;show(zas (qc kvs p.1 p.2) r).length<=_;rw[List.length_cons];omega
theorem zat{P:Program}{w:World}:∀{kvs:List (Key×V)}{ws:List (Value×Value)},VV (kvs.map λkv=>(kV kv.1,kv.2)) ws->∃rs,Carries (y8 P w) ws rs/\KV kvs rs
 |[],_,r=>by rw[List.map_nil]at r;cases r;exact⟨[],True.intro,.nil⟩
 |p::kvs,_,r=>by
  rw[List.map_cons]at r
  cases r with
  |@cons a b as bs h t=>
   obtain⟨rs,c,q⟩:=zat (P:=P) (w:=w) t;obtain⟨b1,b2⟩:=b;exact⟨(p.1,b2)::rs,⟨zqu h.1,rfl,c⟩,.cons ⟨rfl,h.2⟩ q⟩
def zqy(trs:List (TE×TE)):TE:=λσ H Q=>∀p,H p=none->zfb trs σ (upd H p (.dK [])) λps H2=>H2 p=some (.dK [])/\∃kvs:List (Key×V),ps=kvs.map (λkv=>(kV kv.1,kv.2))/\kvs.length<=15/\Q (.ref p) (upd H2 p (.dK (zas [] kvs)))
theorem zlp{X:Cx}{pos:Pos}{keys:List (Option Expr)}{values:List Expr}{trs:List (TE×TE)}(h:PPs X pos keys values trs)(hall:keys.all (·.isSome)=true)(hl:keys.length=values.length)(h0:keys ≠ [])
  (h15:keys.length<=15):PE X (.Dict keys values pos) (zqy trs):=by
 intro pins s σ H Q I q;have hn:=I.hok.fresh (Nat.le_refl s.heap.objs.size);have I1:=I.laid (a:=s.heap.objs.size) (o:=.dK []) (h':=s.heap.push { cls:=.type "dict",data:=.dict #[] }) (t':=s.toks) (λ_ _ q=>Heap.get?_push_of_some _ q) (Nat.le_refl _) (zjd s.heap I.big);refine wpAny_Dict_walk (knd:=y8 X.prog X.w) hall hl h0 h15 (thn (h pins _ σ _ _ I1 (q _ hn)) λws s2 ⟨ps,H2,I2,rel,e,kvs,ep,lk,q2⟩=>?_);subst ep;obtain⟨rs,c,rk⟩:=zat (P:=X.prog) (w:=X.w) rel;obtain⟨z,hd,vs0,r0,dd⟩:=zqx I2.hok e
 cases r0;refine⟨rs,c,dd,λh' dd' hs=>⟨.ref s.heap.objs.size,_,?_,rfl,q2⟩⟩;have hz:(zas [] kvs).length<=sizeLine:=by
  have h1:=qh kvs [];rw[List.length_nil]at h1;rw[sizeLine_eq];omega
 have he:∃q,h'.get? s.heap.objs.size=some q:=let ⟨q,_,_,hq,_⟩:=dd';⟨q,hq⟩;exact zln I2 (by rw[e];exact True.intro) hs he (zov hz hd (rk.merge .nil) dd')
structure M1(X:Cx)(o:Expr)(m:Str)(apos:Pos)(e:Expr)(cpos:Pos):Prop where
 base:attributeBase o m X.env (eval o X.env)=eval o X.env
 few:((backTo cpos (starEach [e] X.env)).all (λx=>!x.1) && (backToKw cpos (keywordEach [] X.env)).all (λx=>x.1.isSome)
  && decide (([e]:List Expr).length+([]:List Keyword).length+(if ([]:List Keyword).isEmpty then 0 else 1)<30))=true
 line:(apos.endLine == cpos.line)=true
 trees:backTo cpos (starEach [e] X.env) = [(false,eval e X.env)]
structure M2(X:Cx)(o:Expr)(m:Str)(apos:Pos)(e f:Expr)(cpos:Pos):Prop where
 base:attributeBase o m X.env (eval o X.env)=eval o X.env
 few:((backTo cpos (starEach [e,f] X.env)).all (λx=>!x.1) && (backToKw cpos (keywordEach [] X.env)).all (λx=>x.1.isSome)
  && decide (([e,f]:List Expr).length+([]:List Keyword).length+(if ([]:List Keyword).isEmpty then 0 else 1)<30))=true
 line:(apos.endLine == cpos.line)=true
 trees:backTo cpos (starEach [e,f] X.env) = [(false,eval e X.env),(false,eval f X.env)]
section
variable {X:Cx}{pins:List (Addr×Obj)}{σ:St}{H:Hp}{s:Shared}{a:Addr}{y d:V}{u r:Value}{o:Option V}{A:Around}{E:Value->Shared->Prop}
end
section
variable {X:Cx}{o e f:Expr}{apos cpos:Pos}{td ty tx:TE}
end
section
variable {X:Cx}{pins:List (Addr×Obj)}{σ:St}{H:Hp}{s:Shared}{a:Addr}{kvs:List (Key×V)}{A:Around}{E:Value->Shared->Prop}
end
section
variable {X:Cx}{pins:List (Addr×Obj)}{σ:St}{H:Hp}{s:Shared}{a:Addr}{y:V}{u:Value}{A:Around}{E:Value->Shared->Prop}
end
end L2
namespace Att
open PySem PySem.W PySem.Calls PyProof.Rows
section
variable {prog:Program}{w:World}{A:Around}{E:Value->Shared->Prop}{s:Shared}{K:Frag}
end
end Att
namespace L2
open PySem PySem.Spec PyProof.Rows
section
variable {P:Program}{w:World}{K:PySem.W.Frag}{mg:Str->Option Value}{base:Heap}
end
section
variable {X:Cx}
end
section
variable {κ:Type}[DecidableEq κ]
end
def zqz{κ:Type}[DecidableEq κ](ks:List (κ×D))(k:κ)(d:D):List (κ×D):=if (ks.any λkv=>decide (kv.1=k))=true then ks.map (λkv=>if kv.1=k then (kv.1,d) else kv) else ks ++ [(k,d)]
section
variable {K:PySem.W.Frag}{H H':Hp}{κ:Type}[DecidableEq κ]
theorem RepKV.split{ks:List (κ×D)}{vs:List (κ×V)}{p:κ×D}(h:RepKV K H (p::ks) vs):∃v vs',vs=(p.1,v)::vs'/\Rep K H p.2 v/\RepKV K H ks vs':=by
 obtain⟨h1,h2⟩:=h
 cases vs with
 |nil=>cases h1
 |cons q vs=>
  obtain⟨k,v⟩:=q;rw[List.map_cons,List.map_cons,List.cons.injEq]at h1;rw[List.map_cons,List.map_cons]at h2
  cases h2 with
  |cons r t=>
   obtain⟨e,e2⟩:=h1;have e':p.1=k:=e;subst e';exact⟨v,vs,rfl,r,e2,t⟩
theorem RepKV.cons{ks:List (κ×D)}{vs:List (κ×V)}{k:κ}{d:D}{v:V}(r:Rep K H d v)(h:RepKV K H ks vs):RepKV K H ((k,d)::ks) ((k,v)::vs):=⟨by simp[h.1],.cons r h.2⟩
theorem RepKV.nil':RepKV (κ:=κ) K H [] []:=⟨rfl,.nil⟩
theorem RepKV.len{ks:List (κ×D)}{vs:List (κ×V)}(h:RepKV K H ks vs):ks.length=vs.length:=by
 have:=congrArg List.length h.1;simpa using this
theorem RepKV.any:∀{ks:List (κ×D)}{vs:List (κ×V)} (k:κ),RepKV K H ks vs->(ks.any λkv=>decide (kv.1=k))=vs.any λkv=>decide (kv.1=k)
 |[],vs,k,h=>by
  cases vs with
  |nil=>rfl
  |cons q vs=>cases h.1
 |p::ks,vs,k,h=>by
  obtain⟨v,vs',rfl,r,t⟩:=h.split;rw[List.any_cons,List.any_cons,RepKV.any k t]
theorem RepKV.map:∀{ks:List (κ×D)}{vs:List (κ×V)}{k:κ}{d:D}{v:V},RepKV K H ks vs->Rep K H d v->RepKV K H (ks.map λkv=>if kv.1=k then (kv.1,d) else kv) (vs.map λkv=>if kv.1=k then (kv.1,v) else kv)
 |[],vs,k,d,v,h,_=>by
  cases vs with
  |nil=>exact RepKV.nil'
  |cons q vs=>cases h.1
 |p::ks,vs,k,d,v,h,rd=>by
  obtain⟨v',vs',rfl,r,t⟩:=h.split;rw[List.map_cons,List.map_cons];have ih:=RepKV.map (k:=k) t rd;obtain⟨pk,pd⟩:=p
  by_cases c:pk=k
  ·simp only[c,if_true];exact RepKV.cons rd ih
  ·simp only[c,if_false];exact RepKV.cons r ih
theorem RepKV.snoc:∀{ks:List (κ×D)}{vs:List (κ×V)}{k:κ}{d:D}{v:V},RepKV K H ks vs->Rep K H d v->RepKV K H (ks ++ [(k,d)]) (vs ++ [(k,v)])
 |[],vs,k,d,v,h,rd=>by
  cases vs with
  |nil=>exact RepKV.cons rd RepKV.nil'
  |cons q vs=>cases h.1
 |p::ks,vs,k,d,v,h,rd=>by
  obtain⟨v',vs',rfl,r,t⟩:=h.split;obtain⟨pk,pd⟩:=p;exact RepKV.cons r (RepKV.snoc t rd)
theorem RepKV.put{ks:List (κ×D)}{vs:List (κ×V)}{k:κ}{d:D}{v:V}(h:RepKV K H ks vs)(rd:Rep K H d v):RepKV K H (zqz ks k d) (qc vs k v):=by
 unfold zqz qc;rw[h.any k]
 split
 ·exact h.map rd
 ·exact h.snoc rd
end
section
variable {K:PySem.W.Frag}{H₀ H H':Hp}{σD:DSt}{σ:St}
end
section
variable {X:Cx}{e:Expr}{te tk tv:DTE}{pos:Pos}
end
section
variable {X:Cx}
variable {o e:Expr}{to te:DTE}{apos cpos:Pos}
end
end L2
namespace SQ
open PySem PyProof.Rows
set_option autoImplicit false
section
variable {κ:KeyKind}
variable {prog:Program}{w:World}{A:Around}{E:Value->Shared->Prop}{s:Shared}{κ:KeyKind}{kd:SortKind}{a₀:Array Keyed}
end
section
variable {prog:Program}{w:World}{A:Around}{E:Value->Shared->Prop}{s:Shared}
end
end SQ
namespace L2
open PySem PySem.Spec PyProof.Rows SQ
section
variable {X:Cx}
end
end L2
namespace L2
open PySem PySem.Spec PyProof.Rows
end L2
namespace L2
open PySem PySem.Spec PyProof.Rows PySem.Builtin PySem.Builtin.Str
def tx(x:Str):List Nat:=x.cps.toList
def Dl(r:List Nat):Prop:=∀c t,r=c::t->c=44\/c=41\/c=93
theorem Dl.c{c:Nat}{r:List Nat}(h:c=44\/c=41\/c=93):Dl (c::r):=λa t e=>by
 rw[<-(List.cons.inj e).1];exact h
section
variable {xs ys:List D}{r r':List Nat}
end
end L2
namespace L2
open PySem PySem.Spec PyProof.Rows
section
variable {X:Cx}{e:Expr}{p pos:Pos}
end
section
variable {K:PySem.W.Frag}{H₀ H H':Hp}{σD:DSt}{σ:St}
theorem Nst.upd{b:Addr}{vs:List V}{ys:List D}(p:Pers H (upd H b (.lst vs)))(r:Reps K H ys vs):∀{xss:List (List D)}{as:List Addr}{k:Nat},as.Nodup->Nst K H xss as->as[k]?=some b->Nst K (upd H b (.lst vs)) (xss.set k ys) as
 |[],[],k,_,_,e=>by simp at e
 |xs::xss,c::as,0,nd,h,e=>by
  simp at e;subst e;rw[List.nodup_cons]at nd;exact⟨⟨vs,ze,r.mono p⟩,h.2.keep p λa ha u hu=>by rw[zd (λz=>nd.1 (by rw[<-z];exact ha))];exact hu⟩
 |xs::xss,c::as,k+1,nd,h,e=>by
  rw[List.nodup_cons]at nd;have e':as[k]?=some b:=by simpa using e
  obtain⟨⟨ws,e1,r1⟩,t⟩:=h;exact⟨⟨ws,by rw[zd (λz=>nd.1 (by rw[z];exact List.mem_of_getElem? e'))];exact e1,r1.mono p⟩,Nst.upd p r nd.2 t e'⟩
theorem DOk.setF{H1:Hp}(h:DOk K H₀ H1 σD σ)(s1:Same H1 H){o:O}{v:V}{f:List Addr}(n:∀a∈f,H1 a=none)(nf:f.Nodup)(r:RepO K H o v f)(i:Nat):DOk K H₀ H (σD.set i (some (.own o))) (σ.set i (some v)):=by
 obtain⟨s,fp,sl,nd,fr⟩:=id h;have lv:∀b∈fp,∀a∈f,b≠a:=λb hb a ha z=>by
  obtain⟨u,e1,_⟩:=sl.live b hb;rw[z,n a ha]at e1;cases e1
 obtain⟨s',fp',sl',_⟩:=id (h.after s1);have sl2:Slots K H₀ H σD σ fp:=sl.keep s1.pers (λh=>h.same s1) λb _ u e=>s1 b u e
 by_cases hi:i<σD.length
 ·obtain⟨g,g',e',sb⟩:=sl2.set (f:=f) (w:=some (.own o)) (v:=some v) (λt=>.own r t) i hi;refine⟨s',_,e',?_,λb hb=>?_⟩
  ·have nd2:=sb.nodup nd;rw[List.nodup_append]at nd2 ⊢;refine⟨nd2.1,?_,λx hx y hy=>?_⟩
   ·rw[List.nodup_append];exact⟨nf,nd2.2.1,λx hx y hy z=>lv y (sb.subset (List.mem_append_right _ hy)) x hx z.symm⟩
   ·rcases List.mem_append.mp hy with z|z
    ·exact lv x (sb.subset (List.mem_append_left _ hx)) y z
    ·exact nd2.2.2 x hx y z
  ·rcases List.mem_append.mp hb with z|z
   ·exact fr b (sb.subset (List.mem_append_left _ z))
   ·rcases List.mem_append.mp z with z|z
    ·cases q:H₀ b with
     |none=>rfl
     |some u=>have:=n b z;rw[s b u q]at this;cases this
    ·exact fr b (sb.subset (List.mem_append_right _ z))
 ·rw[List.set_eq_of_length_le (by omega),List.set_eq_of_length_le (by rw[<-sl2.length];omega)];exact⟨s',fp,sl2,nd,fr⟩
end
section
variable {X:Cx}{e e1 e2 e3:Expr}{pos:Pos}{te t3:DTE}{t1 t2:DTF}
theorem Nst.at:∀{K:PySem.W.Frag}{H:Hp}{xss:List (List D)}{as:List Addr}{k:Nat}{xs:List D},Nst K H xss as->xss[k]?=some xs->∃b vs,as[k]?=some b/\H b=some (.lst vs)/\Reps K H xs vs
 |_,_,_::_,b::_,0,_,h,e=>by
  simp at e;subst e;obtain⟨vs,e1,r⟩:=h.1;exact⟨b,vs,rfl,e1,r⟩
 |_,_,_::_,_::_,k+1,_,h,e=>by
  obtain⟨b,vs,h1,h2⟩:=Nst.at h.2 (k:=k) (by simpa using e);exact⟨b,vs,by simpa using h1,h2⟩
 |_,_,[],[],_,_,_,e=>by simp at e
variable {o:Expr}{to:DTE}{apos cpos:Pos}
end
structure Sl(fs:List Addr)(e:Addr)(h h':Heap):Prop where
 keep:∀b o,h.get? b=some o->b≠e->b∉fs->h'.get? b=some o
 slot:∀b o,h.get? b=some o->b≠e->∃sl,h'.get? b=some { o with slots:=sl }
def Fly(h:Heap)(e:Addr)(cls:Value)(od:Option Addr):Prop :=
 ∃oe vs T oT ts,h.get? e=some oe/\(oe.cls=cls/\oe.dict=od)/\oe.data=.fields vs/\vs[1]?=some (.ref T)/\T≠e/\h.get? T=some oT/\oT.data=.fields ts/\ts[3]?=some .none
def zow(h:Heap)(e:Addr)(cls:Value)(od:Option Addr):Prop :=
 Fly h e cls od\/∃oe vs,h.get? e=some oe/\(oe.cls=cls/\oe.dict=od)/\oe.data=.fields vs/\vs[1]?=some .none
theorem zg7(o:Obj)(f):(o.mapFields f).dict=o.dict:=by
 obtain⟨c,d,dt,sl⟩:=o
 cases dt <;> rfl
theorem zb8{o:Obj}{ts:Array Value}{i:Nat}{x:Value}(hd:o.data=.fields ts)(hx:ts[i]?=some x):o.mapFields (·.setIfInBounds i x)=o:=by
 obtain⟨c,d,dt,sl⟩:=o;subst hd;obtain⟨hi,e⟩:=Array.getElem?_eq_some_iff.mp hx;have:ts.setIfInBounds i x=ts:=by
  apply Array.ext
  ·simp
  ·intro j h1 h2;rw[Array.getElem_setIfInBounds]
   split
   ·next q=>subst q;exact e.symm
   ·rfl
 show(⟨c,d,.fields (ts.setIfInBounds i x),sl⟩:Obj)=_;rw[this]
theorem kx{h:Heap}{T:Addr}{o:Obj}{ts:Array Value}{i:Nat}{x:Value}(e:h.get? T=some o)(hd:o.data=.fields ts)(hx:ts[i]?=some x)(b:Addr):
  (h.update T (Obj.mapFields (·.setIfInBounds i x))).get? b=h.get? b:=by
 by_cases q:T=b
 ·subst q;rw[Heap.get?_update_self _ e (by rw[zb8 hd hx];exact Obj.isFreed_of_fields hd),zb8 hd hx,e]
 ·exact Heap.get?_update_other _ _ q
section
variable {M:Model}{A:Around}{E:Value->Shared->Prop}{s:Shared}{base:Heap}{env:Env}{outer:List Env}{L e:Addr}{Q:Unit->Shared->Prop}
theorem zau{oe:Obj}{vs:Array Value}{hd0:Value}{nxt:Bool}(hfr:A.frames=some (env::outer))(hl:s.heap.FunFrames base (env::outer))(hf:env.frame=some L)
  (he:s.heap.get? e=some oe) (hd:oe.data=.fields vs) (hsz:1<vs.size) (k:∀h',Sl (frs (env::outer)) e s.heap h'->Fly h' e oe.cls oe.dict->Q () { s with heap:=h' }) :
  wpAny M A (do let a <-frameOf env;let pl <-entryPlaceOf L nxt;let b <-EntryCells.newEntry hd0 a .none (rawInt L) .none pl;setField (.ref e) 1 b) (λ_ s'=>wpAny M A (setFlight (.ref e) none) Q E s') E s:=by
 have nin:e∉frs (env::outer):=λhm=>by
  obtain⟨_,o,ho,hnf⟩:=hl.mem hm;have z:=he.symm.trans ho
  cases z;exact hnf vs hd
 refine wpAny_bind (wpAny_frameOf_fun hfr hl hf λg1 so=>wpAny_bind (wpAny_entryPlaceOf λpl hpl=>?_));unfold EntryCells.newEntry newFields;refine wpAny_bind (wpAny_newObj_type ?_ (hpl.sizeOk5 _ _ _ _ _));generalize ek:([hd0,.ref L,.none,rawInt L,.none]++(if pl.isEmpty then List.replicate 6 Value.none else pl)).toArray=tb;have tbz:3<tb.size:=by rw[<-ek];simp only[List.size_toArray,List.length_append,List.length_cons,List.length_nil];omega
 have e1:g1.get? e=some oe:=(so.2.1 e nin).trans he;have ne:g1.objs.size≠e:=Nat.ne_of_gt (Heap.lt_size e1);have e2:=Heap.get?_push_of_some (h:=g1) { cls:=.type "traceback",dict:=none,data:=.fields tb } e1;refine wpAny_setField e2 hd hsz ?_;have d3:=Obj.data_mapFields hd (·.setIfInBounds 1 (Value.ref g1.objs.size));have e3:=Heap.get?_update_self (Obj.mapFields (·.setIfInBounds 1 (Value.ref g1.objs.size))) e2 (Obj.isFreed_of_fields d3);have t3:((g1.push { cls:=.type "traceback",dict:=none,data:=.fields tb }).update e (Obj.mapFields (·.setIfInBounds 1 (Value.ref g1.objs.size)))).get? g1.objs.size=some { cls:=.type "traceback",dict:=none,data:=.fields tb } :=
  (Heap.get?_update_other _ _ (Ne.symm ne)).trans (Heap.get?_push_size g1 rfl)
 unfold setFlight;refine wpAny_bind (wpAny_field e3 d3 (x:=.ref g1.objs.size) (by simp[hsz]) ?_);rw[if_pos (show(Value.ref g1.objs.size != Value.none)=true by simp)];refine wpAny_setField t3 rfl tbz (k _ ?_ ?_)
 ·have kp:∀b o,b≠e->g1.get? b=some o->(((g1.push { cls:=.type "traceback",dict:=none,data:=.fields tb }).update e (Obj.mapFields (·.setIfInBounds 1 (Value.ref g1.objs.size)))).update g1.objs.size (Obj.mapFields (·.setIfInBounds 3 ((none:Option Addr).elim Value.none λf=>rawInt f)))).get? b=some o:=λb o nb hb=>by
   rw[Heap.get?_update_other _ _ (Nat.ne_of_gt (Heap.lt_size hb)),Heap.get?_update_other _ _ (Ne.symm nb)];exact Heap.get?_push_of_some _ hb
  refine⟨λb o hb nb nf=>kp b o nb ((so.2.1 b nf).trans hb),λb o hb nb=>?_⟩;obtain⟨sl,hs⟩:=so.2.2 b o hb;exact⟨sl,kp b _ nb hs⟩
 ·refine⟨_,_,g1.objs.size,_,_,(Heap.get?_update_other _ _ ne).trans e3,⟨Obj.cls_mapFields _ _,zg7 _ _⟩,d3,by simp[hsz],ne,Heap.get?_update_self _ t3 (Obj.isFreed_of_fields (Obj.data_mapFields rfl _)),Obj.data_mapFields rfl _,?_⟩;simp[tbz]
theorem zmr{cls:Value}{od:Option Addr}(hfr:A.frames=some (env::outer))(hl:s.heap.FunFrames base (env::outer))(hf:env.frame=some L)(hy:zow s.heap e cls od)
  (k:∀h',Sl (frs (env::outer)) e s.heap h'->Fly h' e cls od->Q () { s with heap:=h' }) :
  wpAny M A (noteFrame (.ref e) env) (λ_ s'=>wpAny M A (setFlight (.ref e) none) Q E s') E s:=by
 unfold noteFrame;simp only[hf];rcases hy with⟨oe,vs,T,oT,ts,he,⟨rfl,rfl⟩,hd,h1,nT,hT,dT,h3⟩ |⟨oe,vs,he,⟨rfl,rfl⟩,hd,h1⟩
 ·refine wpAny_bind (wpAny_field he hd h1 ?_);rw[if_pos (show(Value.ref T != Value.none)=true by simp)];refine wpAny_bind (wpAny_field hT dT h3 ?_);rw[if_neg (show ¬ ((Value.none == rawInt L)=true) by simp[rawInt])];refine wpAny_bind (wpAny_setField hT dT (Array.getElem?_eq_some_iff.mp h3).1 ?_);have sm:=kx hT dT h3;refine zau hfr (hl.of_keeps λb o hb _=>⟨o,(sm b).trans hb,rfl⟩) hf ((sm e).trans he) hd (Array.getElem?_eq_some_iff.mp h1).1 λh' S F=>k h' ⟨λb o hb=>S.keep b o ((sm b).trans hb),λb o hb=>S.slot b o ((sm b).trans hb)⟩ F
 ·refine wpAny_bind (wpAny_field he hd h1 ?_);rw[if_neg (by decide)];exact zau hfr hl hf he hd (Array.getElem?_eq_some_iff.mp h1).1 k
theorem zox{cls:Value}{od:Option Addr}(hfr:A.frames=some (env::outer))(hl:s.heap.FunFrames base (env::outer))(hf:env.frame=some L)(hy:zow s.heap e cls od)
  (k:∀h',Sl (frs (env::outer)) e s.heap h'->Fly h' e cls od->Q () { s with heap:=h' }):wpAny M A (leaving env (.ref e)) Q E s:=by
 unfold leaving;exact wpAny_bind (zmr hfr hl hf hy k)
theorem zq3{cls:Value}{od:Option Addr}(hy:Fly s.heap e cls od)(k:∀h',(∀b,h'.get? b=s.heap.get? b)->Q () { s with heap:=h' }):wpAny M A (setFlight (.ref e) none) Q E s:=by
 obtain⟨oe,vs,T,oT,ts,he,_,hd,h1,nT,hT,dT,h3⟩:=hy;unfold setFlight;refine wpAny_bind (wpAny_field he hd h1 ?_);rw[if_pos (show(Value.ref T != Value.none)=true by simp)];exact wpAny_setField hT dT (Array.getElem?_eq_some_iff.mp h3).1 (k _ (kx hT dT h3))
end
def CXk(P:Program)(w:World):CXT:=λouter H s E e s'=>∃a C od H',e=.ref a/\s'.os=s.os/\AllBare s'.gens/\Un (frs outer) [] H H' s.heap s'.heap/\HOk P w H' s'.heap /\
 s.heap.get? a=none/\H' a=none/\Fly s'.heap a (.ref C) od/\E (.ref C) od H'
section
variable {fs fs':List Addr}{H H1:Hp}{h h1 h2:Heap}{a:Addr}{P:Program}{w:World}
theorem Un.sl(u:Un fs [] H H1 h h1)(S:Sl fs' a h1 h2)(hf:∀b o,b∈fs'->h.get? b=some o->b∈fs)(ha:h.get? a=none):Un fs [] H H1 h h2 where
 keep:=λb o e n hb hx=>S.keep b o (u.keep b o e n hb hx) (λz=>by rw[z,ha]at e;cases e) λz=>hb (hf b o z e)
 slot:=λb o e n hb hx=>by
  obtain⟨sl,e1⟩:=u.slot b o e n hb hx;obtain⟨sl',e2⟩:=S.slot b _ e1 λz=>by rw[z,ha]at e;cases e
  exact⟨sl',e2⟩
 free:=u.free
 there:=λb o e hx=>by
  obtain⟨o',e1⟩:=u.there b o e hx;obtain⟨sl,e2⟩:=S.slot b _ e1 λz=>by rw[z,ha]at e;cases e
  exact⟨_,e2⟩
 tups:=u.tups
 frzs:=u.frzs
 tbls:=u.tbls
theorem HOk.sl(hok:HOk P w H1 h1)(S:Sl fs' a h1 h2)(hf:∀b∈fs',H1 b=none)(ha:H1 a=none):HOk P w H1 h2:=λb o e=>by
 have ne:∀c u,H1 c=some u->c≠a/\c∉fs':=λc u q=>⟨λz=>(by rw[z,ha]at q;cases q),λz=>by rw[hf c z]at q;cases q⟩
 refine(hok b o e).stay (λc u hc q=>?_) (λ_ q=>q) λ_ _ q=>q;rcases hc with rfl|hc
 ·exact S.keep c u q (ne c o e).1 (ne c o e).2
 ·exact S.keep c u q (ne c _ hc).1 (ne c _ hc).2
end
theorem zms{P:Program}{w:World}{K:PySem.W.Frag}{mg:Str->Option Value}{base:Heap}{N:List Str}{qual:Str}{scope:Scope}{f:Addr}{cd:Value}{A:Around}{outer:List Env}{s s1:Shared}{H H1:Hp}{E:XK}{pins:List (Addr×Obj)}{σ:St}{a C:Addr}{od:Option Addr}
  (I:Inv (y6 (CXk P w) P w K mg base N qual scope f cd A outer s H E) pins σ H1 s1) (hy:zow s1.heap a (.ref C) od) (hn:s.heap.get? a=none) (hf:H1 a=none) (hE:E (.ref C) od H1) :
  (y6 (CXk P w) P w K mg base N qual scope f cd A outer s H E).xe (.ref a) s1:=by
 refine zox (base:=base) (outer:=outer) I.ok.frames I.stack rfl hy λh' S F=>?_;refine⟨a,C,od,H1,rfl,I.os,I.bare,Un.sl (show Un (frs outer) [] H H1 s.heap s1.heap from I.base) S (λb o hb e=>?_) hn,HOk.sl I.hok S (λb hb=>I.stkFree b hb) hf,hn,hf,F,hE⟩;rcases List.mem_cons.mp (I.stkSub b hb) with q|q
 ·rw[q]at e;exact absurd (Nat.lt_of_lt_of_le (Heap.lt_size e) I.ok.above) (Nat.lt_irrefl _)
 ·exact q
theorem zoy{K:PySem.W.Frag}{h:Heap}{C:Addr}{bmB:List Value}{newId:String}(X:K.In h)(q:PySem.W.excIn K C bmB newId=true):
  ∃nm qn N bs bm hd sn sub ab col dd k0 k1 k2 k3 k5 mN,h.get? C=some (excClassObj nm qn C N bs bm hd sn sub ab col dd k0 k1 k2 k3 k5 newId)/\h.Ns N mN/\mN "__init__" = none/\OwnTail h bmB bm:=by
 unfold PySem.W.excIn at q
 split at q
 ·next dd cd sl ho=>
  split at q
  ·next C' bm k0 k1 k2 k3 n k5 hm hs=>
   simp only[Bool.and_eq_true,beq_iff_eq,Bool.not_eq_true']at q;obtain⟨⟨⟨⟨⟨rfl,rfl⟩,z1⟩,z2⟩,z3⟩,z4⟩:=q;obtain⟨nm,bs,mro,ns,qn,hd,sn,sub,ab,col,del⟩:=cd;obtain⟨l⟩:=sl;dsimp only at hm z1 z3 z4 hs;subst hm z1 hs;exact⟨nm,qn,ns,bs,bm,hd,sn,sub,ab,col,dd,k0,k1,k2,k3,k5,_,X _ _ ho,.of_isNs (PySem.W.isNs_of_in X z3),PySem.W.nsMap_none_of_in X z3 z4,PySem.W.tail_of_in X z2⟩
  ·cases q
 ·cases q
theorem ObjOk.ex{P:Program}{w:World}{H:Hp}{h:Heap}{a:Addr}{o:HO}(x:ObjOk P w H h a o):∃u,h.get? a=some u:=by
 cases o with
 |lst xs=>obtain⟨_,_,_,_,e⟩:=x;exact⟨_,e⟩
 |tup xs=>obtain⟨_,_,_,o,e,_⟩:=x;exact⟨_,e⟩
 |dK kvs=>obtain⟨_,_,_,_,o,_,_,e,_⟩:=x;exact⟨_,e⟩
 |dT kvs=>obtain⟨_,_,_,_,o,_,_,e,_⟩:=x;exact⟨_,e⟩
 |set S n=>obtain⟨o,_,_,_,e,_⟩:=x;exact⟨_,e⟩
 |ins C dx fs=>obtain⟨_,_,_,e,_⟩:=x;exact⟨_,e⟩
 |own y=>exact x
 |xd fs=>obtain⟨_,⟨_,_,_,e,_⟩,_⟩:=x;exact⟨_,e⟩
 |rng lo hi=>obtain⟨_,_,_,e⟩:=x;exact⟨_,e⟩
 |frz ob u=>exact⟨_,x.1⟩
 |tbl ps=>obtain⟨_,_,_,_,e,_⟩:=x;exact⟨_,e⟩
 |met f y=>exact⟨_,x⟩
 |ext φ=>exact x.2.1
theorem zoz{P:Program}{w:World}{K:PySem.W.Frag}{mg:Str->Option Value}{base:Heap}{N:List Str}{qual:Str}{scope:Scope}{f:Addr}{cd:Value}{A:Around}{outer:List Env}{s s1:Shared}{H H1:Hp}{E:XK}{pins:List (Addr×Obj)}{σ:St}{C:Addr}{x:Str}{np cpos pos:Pos}{Q:Flow->Shared->Prop}
  (I:Inv (y6 (CXk P w) P w K mg base N qual scope f cd A outer s H E) pins σ H1 s1) (hh:A.handled=none) (hg:Gl (y6 (CXk P w) P w K mg base N qual scope f cd A outer s H E) x) (hm:mg x=some (.ref C))
  (q:PySem.W.excIn K C [.type "ValueError",.type "Exception",.type "BaseException",.type "object"] "ValueError.__new__" = true) (hE:E (.ref C) none H1) (hdb:(x ==("__debug__" : Str))=false:=by decide) :
  wpAny (model P w) (A.deeper (envOfC qual scope s.heap.objs.size f cd)) (exec (.Raise (some (.Call (.Name x np) [] [] cpos)) none pos) (envOfC qual scope s.heap.objs.size f cd)) Q (y6 (CXk P w) P w K mg base N qual scope f cd A outer s H E).xe s1:=by
 obtain⟨nm,qn,Nn,bs,bm,hd,sn,sub,ab,col,dd,k0,k1,k2,k3,k5,mN,hC,hN,hni,T⟩:=zoy I.kIn q;refine wpAny_Raise_call_subU (C:=C) (nm:=nm) (q:=qn) (N:=Nn) (bs:=bs) (bm:=bm) (hdct:=hd) (sn:=sn) (sub:=sub) (ab:=ab) (col:=col) (dd:=dd) (k0:=k0) (k1:=k1) (k2:=k2) (k3:=k3) (k5:=k5) (newId := "ValueError.__new__")
  PySem.F.excBase_ValueError rfl PySem.F.excBase_ValueError (mN:=mN) (T.hasType rfl) hh rfl hni (vz I hg hm ⟨rfl,?_⟩ hdb)
 refine evalArgs_empty ⟨rfl,Nat.zero_le _,hC,hN,T,λh' e mk=>?_⟩;have J:=I.kept (t':=s1.toks) mk.keeps;obtain⟨t,he,_,_⟩:=mk.there;have ne:∀b u,H1 b=some u->b≠e:=λb u z q=>by
  have:=mk.new;rw[<-q]at this;obtain⟨o,ho⟩:=(I.hok b u z).ex;rw[ho]at this
  cases this
 refine zms J (.inr ⟨_,_,he,⟨rfl,rfl⟩,rfl,rfl⟩) ?_ ?_ hE
 ·cases z:s.heap.get? e with
  |none=>rfl
  |some o=>
   obtain⟨o',e'⟩:=I.base.there e o z (by intro y;cases y);rw[mk.new]at e'
   cases e'
 ·cases z:H1 e with
  |none=>rfl
  |some u=>exact absurd rfl (ne e u z)
structure Room0(k:Nat)(A:Around):Prop where
 dp:A.depth+3 * k+5<recursionLimit
 un:A.units+16 * k+200<cLine
 gd:A.guards=some []
theorem Room.r0{k:Nat}{A:Around}(r:Room k A):Room0 k A:=⟨r.dp,r.un,r.gd⟩
theorem Room0.mono{j k:Nat}{A:Around}(r:Room0 k A)(h:j<=k):Room0 j A:=⟨by have:=r.dp;omega,by have:=r.un;omega,r.gd⟩
theorem Room0.deeper{k:Nat}{A:Around}(r:Room0 (k+1) A)(env:Env):Room0 k (A.deeper env) :=
 ⟨by have:=r.dp;show A.depth+1+3 * k+5<_;omega,by have:=r.un;show A.units+3+16 * k+200<_;omega,r.gd⟩
theorem Room0.mark{k:Nat}{A:Around}(r:Room0 k A)(e:Option Value):Room0 k (A.mark e):=⟨r.dp,r.un,r.gd⟩
theorem Room0.units{k:Nat}{A:Around}(r:Room0 k A):A.units+64<cLine:=by have:=r.un;omega
def Cx.held(X:Cx)(e:Value):Cx:={ X with A:=X.A.mark (some e),calm:=false,xe:=λ_ _=>False }
section
variable {X:Cx}{pins:List (Addr×Obj)}{σ:St}{H:Hp}{s:Shared}{e:Value}
theorem Inv.held(I:Inv X pins σ H s)(e:Value):Inv (X.held e) pins σ H s :=
 ⟨⟨I.ok.mod,I.ok.kind,I.ok.glob,I.ok.blt,I.ok.above,I.ok.inj,I.ok.has,I.ok.cab,(λz=>nomatch z),I.ok.frames,I.ok.stk,I.ok.exf,I.ok.bs,I.ok.bsz,I.ok.noex,I.ok.exfs,I.ok.funs,I.ok.frf⟩,I.os,I.bare,I.base,I.loc,I.cell,I.free,I.freeC,I.pin,I.hok,I.len⟩
theorem Inv.unheld(ok:X.Ok)(I:Inv (X.held e) pins σ H s):Inv X pins σ H s:=⟨ok,I.os,I.bare,I.base,I.loc,I.cell,I.free,I.freeC,I.pin,I.hok,I.len⟩
theorem Inv.goes(I:Inv X pins σ H s){h':Heap}{m':Str->Option Value}(hn:h'.Ns X.env.locals m')(hs:Heap.SameBut X.env.locals s.heap h')(t:Nat):Inv X pins (List.replicate X.N.length none) H { s with heap:=h',toks:=t }:=by
 have ne:∀b o,X.s₀.heap.get? b=some o->b≠X.env.locals:=λb o e=>Nat.ne_of_lt (Nat.lt_of_lt_of_le (Heap.lt_size e) I.ok.above);refine⟨I.ok,I.os,I.bare,⟨λb o e n hb hx=>?_,λb o e n hb hx=>?_,I.base.free,λb o e hx=>?_,I.base.tups,I.base.frzs,I.base.tbls⟩,⟨m',hn,λj y v e1 e2 _=>?_⟩,λy c e=>?_,I.free,I.freeC,λp hp=>?_,λb ob e=>?_,List.length_replicate⟩
 ·exact(hs.2 b (ne b o e)).trans (I.base.keep b o e n hb hx)
 ·obtain⟨sl,e1⟩:=I.base.slot b o e n hb hx;exact⟨sl,(hs.2 b (ne b o e)).trans e1⟩
 ·obtain⟨o',e1⟩:=I.base.there b o e hx;exact⟨o',(hs.2 b (ne b o e)).trans e1⟩
 ·rw[List.getElem?_replicate]at e2
  split at e2 <;> cases e2
 ·obtain⟨w',z⟩:=I.cell y c e;exact⟨w',z.sameBut hs (I.cne y c e)⟩
 ·obtain⟨e,n,nl,nf,d⟩:=I.pin p hp;exact⟨(hs.2 p.1 nl).trans e,n,nl,nf,d⟩
 ·refine(I.hok b ob e).stay (λc u hc q=>(hs.2 c ?_).trans q) (λ_ q=>q) λ_ _ q=>q;rintro rfl;rcases hc with hc|hc
  ·rw[<-hc,I.free]at e;cases e
  ·rw[I.free]at hc;cases hc
end
structure FnH(P:Program)(w:World)(K:PySem.W.Frag)(mg:Str->Option Value)(base:Heap)(k:Nat)(f:Addr)(fd:FuncData)(ps:List Str)(sp:Sp):Prop where
 len:∀vs H Q E,sp vs H Q E->vs.length=ps.length
 run:∀(A:Around) (outer:List Env) (s:Shared) (H:Hp) (args:Args) (us:List Value) (vs:List V) (Q:VK) (E:XK),Room0 k A->Env0 P w K mg base A outer s H->BindsTo s fd args (ps.zip us)->Vals vs us->sp vs H Q E ->
  codeAny (model P w) A (.call (.ref f) args) (CR CX0 outer P w H s Q E) s
def ky(P:Program)(w:World)(K:PySem.W.Frag)(mg:Str->Option Value)(base:Heap)(k:Nat)(x:Str)(ps:List Str)(sp:Sp):Prop :=
 ∃f fd,FnH P w K mg base k f fd ps sp/\Binds K fd ps []/\PySem.W.keepIn K (.ref f)=true/\mg x=some (.ref f)
def cxH(P:Program)(w:World)(K:PySem.W.Frag)(mg:Str->Option Value)(base:Heap)(N:List Str)(qual:Str)(scope:Scope)(f:Addr)(cd:Value)(A:Around)(outer:List Env)(s:Shared)(H:Hp):Cx :=
 { y6 CX0 P w K mg base N qual scope f cd A outer s H E0 with calm:=false,xe:=λ_ _=>False }
theorem zjf{X:Cx}{k k':Nat}{x:Str}{ps:List Str}{sp:Sp}{e:Expr}{es:List Expr}{t:TA}{p pos:Pos}(C:ky X.prog X.w X.K X.mg X.base k x ps sp)(hr:Room0 k' X.A)(hg:Gl X x)(ha:PA X (e::es) t)(hk:k<=k')
  (hdb:(x ==("__debug__" : Str))=false) (he:starEach (e::es) X.env=(false,eval e X.env)::starEach es X.env) (hpl:(backTo pos (starEach es X.env)).any (·.1)=false):PE X (.Call (.Name x p) (e::es) [] pos) (zfz sp [] E0 t):=by
 intro pins s σ H Q I h;obtain⟨f,fd,F,b,kp,m⟩:=C;refine wpAny_Call_Name_kw (vz I hg m ?_ hdb);refine PySem.W.callWith_K (h₀:=X.base) I.ok.mod.kin kp (thn (ha pos pins s σ H _ I h) λus s1 ⟨vs,H1,I1,r,q⟩=>⟨I1.kIn,?_⟩) he hpl;have q':sp vs H1 Q E0:=by
  have z:sp (vs ++ []) H1 Q E0:=q;rw[List.append_nil]at z;exact z
 have hl:us.length=ps.length:=by rw[<-r.length];exact F.len _ _ _ _ q'
 have bb:BindsTo s1 fd ⟨us,[]⟩ (ps.zip us):=by
  have:=b s1 us I1.kIn (by rw[List.append_nil];exact hl);rw[List.append_nil]at this;exact this
 refine wpAny_call (codeAny_mono (F.run X.A X.stack s1 H1 ⟨us,[]⟩ us vs Q E0 (hr.mono hk) I1.env0 bb r q') λr s' hq=>?_)
 cases r with
 |error e=>exact False.elim hq
 |ok fl=>
  cases fl with
  |ret u=>exact I1.after hq
  |next=>exact False.elim hq
  |brk=>exact False.elim hq
  |cont=>exact False.elim hq
section
variable {P:Program}{w:World}{K:PySem.W.Frag}{mg:Str->Option Value}{base:Heap}
theorem Fun.dokH{x qual:Str}{st:Stmt}{f:Addr}{fd:FuncData}{N ps:List Str}{k:Nat}{sp:DSp}(F:Fun K x qual st f fd)(S:zm N ps (zb st))(len:∀ws Q,sp ws Q->ws.length=ps.length)
  (hbody:∀(cdv:Value) (A:Around) (outer:List Env) (s:Shared) (H:Hp) (ws:List W) (Q:Ret->Prop),Room0 k (A.deeper (envOfC qual (zb st) s.heap.objs.size f cdv))->sp ws Q ->
   ∃t,DSs (cxH P w K mg base N qual (zb st) f cdv A outer s H) (zy st) t/\t { nx:=λ_=>Q (.val .none),rt:=Q } (xi N ws)):FnH P w K mg base (k+1) f fd ps (zx K sp):=by
 obtain⟨oc,od,kV,doc,pm,an,cdv,ct,osl,rfl,lk,hcd⟩:=F.ex;refine⟨λvs H Q E ⟨ws,QD,r,q,_⟩=>by rw[<-r.length];exact len ws QD q,λA outer s H args us vs Q E hr e0 hb r ⟨ws,QD,rw',q,kk⟩=>?_⟩;have hl:vs.length=ps.length:=by rw[<-rw'.length];exact len ws QD q
 have KX:K.In s.heap:=e0.mod.kin.keeps λb o e=>(e0.bs b o e).1;have lim:s.heap.NoLimit:=e0.mod.nolimit.keeps λb o e=>(e0.bs b o e).1;have hkind:∀y∈ps.zip us,(zb st).names.lookup y.1=some .local\/((zb st).names.lookup y.1=some .cell/\((cellsFrom (s.heap.objs.size+1) (zb st).names []).lookup y.1).isSome=true):=λ⟨n,v⟩ hy=>by
  rcases S.par n (List.of_mem_zip hy).1 with q|q
  ·exact .inl q
  ·exact .inr ⟨q,PySem.W.cellsFrom_some _ _ _ (.inl q)⟩
 refine codeAny_call_function (by have:=hr.dp;omega) (KX _ _ lk) rfl S.co S.gen rfl (PySem.W.codeRec_of KX hcd) (hb _ _ _ _ ?_);refine wpAny_newFunctionEnv_cells S.kind hkind λenv he s1 x=>?_;subst he;refine⟨lim.keeps x.toInCall.keep,codeAny_func ?_⟩;obtain⟨t,ht,hq⟩:=hbody cdv A outer s H ws QD (hr.deeper _) q;have e1:Env0 P w K mg base { A with handled:=none } outer s H:=⟨e0.frames,e0.mod,e0.bs,e0.bsz,e0.funs,e0.frf,e0.hok,e0.bare⟩
 have J:Inv (y6 CX0 P w K mg base N qual (zb st) f cdv { A with handled:=none } outer s H E0) [] (xo N vs) H s1:=zbw S rfl e1 hl r x;have I:Inv (cxH P w K mg base N qual (zb st) f cdv A outer s H) [] (xo N vs) H s1 :=
  ⟨⟨J.ok.mod,J.ok.kind,J.ok.glob,J.ok.blt,J.ok.above,J.ok.inj,J.ok.has,J.ok.cab,(λz=>nomatch z),Around.frames_deeper e0.frames,J.ok.stk,J.ok.exf,J.ok.bs,J.ok.bsz,J.ok.noex,J.ok.exfs,J.ok.funs,J.ok.frf⟩,J.os,J.bare,J.base,J.loc,J.cell,J.free,J.freeC,J.pin,J.hok,J.len⟩
 refine wpAny_mono (ht.run [] s1 (xo N vs) H H _ _ I (DOk.begin rw' N) hq) (λfl s' hs=>?_) λe s' hs=>False.elim hs;have fin:∀{σ':St}{H':Hp}{v:V}{u:Value},Inv (cxH P w K mg base N qual (zb st) f cdv A outer s H) [] σ' H' s'->RelV v u->Q v H'->CE outer P w H s Q u s' :=
  λ{σ' H' v u} J rv q=>⟨v,H',J.os,J.bare,J.base,J.hok,rv,q⟩
 cases fl with
 |ret u=>
  obtain⟨v,σ',H',r',J,rv,sm,rp,q'⟩:=hs;exact fin J rv (kk v H' r' sm rp q')
 |next=>
  obtain⟨σ',H',σD',J,ok,_,q'⟩:=hs;exact fin (v:=V.non) (u:=Value.none) J rfl (kk .non H' (.val .none) ok.same .non q')
 |brk=>obtain⟨_,_,_,_,_,_,q'⟩:=hs;exact False.elim q'
 |cont=>obtain⟨_,_,_,_,_,_,q'⟩:=hs;exact False.elim q'
end
abbrev EX:=Str×List (Str×Int)->Prop
abbrev zbh:=List W->(Ret->Prop)->EX->Prop
def XE(K:PySem.W.Frag)(H:Hp)(ex:EX):XK:=λc od H'=>∃x C,c=.ref C/\PySem.W.nsIn K mainGlobals x.1=some (some (.ref C))/\Same H H'/\((x.2 = []/\od=none)\/∃d,od=some d/\H' d=some (.xd (x.2.map λp=>(p.1,V.int p.2))))/\ex x
def xr(K:PySem.W.Frag)(sp:zbh):Sp:=λvs H Q E=>∃ws QD ex,RepWs K H ws vs/\sp ws QD ex/\(∀v H' r,Same H H'->ko K H H' r v->QD r->Q v H')/\∀c od H',XE K H ex c od H'->E c od H'
def y0(P:Program)(w:World)(K:PySem.W.Frag)(mg:Str->Option Value)(base:Heap)(k:Nat)(x:Str)(ps:List Str)(sp:Sp):Prop :=
 ∃f fd,FnOk P w K mg base (CXk P w) k f fd ps sp/\Binds K fd ps []/\PySem.W.keepIn K (.ref f)=true/\mg x=some (.ref f)
structure DSX(X:Cx)(st:Stmt)(t:DTS):Prop where
 run:∀(pins:List (Addr×Obj)) (s:Shared) (σ:St) (H:Hp) (σD:DSt) (Dn:xf),Inv X pins σ H s->DOk X.K X.H₀ H σD σ->t Dn σD->wpAny (model X.prog X.w) X.A (exec st X.env) (DSP X pins X.H₀ H Dn) X.xe s
structure DSXs(X:Cx)(st:List Stmt)(t:DTS):Prop where
 run:∀(pins:List (Addr×Obj)) (s:Shared) (σ:St) (H:Hp) (σD:DSt) (Dn:xf),Inv X pins σ H s->DOk X.K X.H₀ H σD σ->t Dn σD->wpAny (model X.prog X.w) X.A (execs st X.env) (DSP X pins X.H₀ H Dn) X.xe s
theorem DSP.unnox{X:Cx}{pins:List (Addr×Obj)}{H₀ H:Hp}{Dn:xf}{f:Flow}{s':Shared}(h:DSP X.nox pins H₀ H Dn f s'):DSP X pins H₀ H Dn f s':=by
 cases f with
 |next=>obtain⟨a,b,c,I,r⟩:=h;exact⟨a,b,c,I.unwish,r⟩
 |brk=>obtain⟨a,b,c,I,r⟩:=h;exact⟨a,b,c,I.unwish,r⟩
 |cont=>obtain⟨a,b,c,I,r⟩:=h;exact⟨a,b,c,I.unwish,r⟩
 |ret u=>obtain⟨v,a,b,q,I,r⟩:=h;exact⟨v,a,b,q,I.unwish,r⟩
section
variable {X:Cx}{st:Stmt}{sts rest:List Stmt}{t u:DTS}{pos:Pos}
theorem zo0(h:DS X.nox st t):DSX X st t:=⟨λpins s σ H σD Dn I ok q=>wpAny_mono (h.run pins s σ H X.H₀ σD Dn (I.wish _) ok q) (λ_ _ z=>z.unnox) λ_ _ z=>False.elim z⟩
theorem zlq(h:DSs X.nox sts t):DSXs X sts t:=⟨λpins s σ H σD Dn I ok q=>wpAny_mono (h.run pins s σ H X.H₀ σD Dn (I.wish _) ok q) (λ_ _ z=>z.unnox) λ_ _ z=>False.elim z⟩
theorem zjg:DSXs X [] zga:=zlq yo
theorem zg8(h1:DSX X st t)(h2:DSXs X rest u):DSXs X (st::rest) (ziz t u):=⟨λpins s σ H σD Dn I ok q=>by
 refine wpAny_execs_cons (thn (h1.run pins s σ H σD { Dn with nx:=u Dn } I ok q) λf s1 z=>?_)
 cases f with
 |next=>
  obtain⟨σ1,H1,σD1,I1,ok1,p1,q1⟩:=z;exact thn (h2.run pins s1 σ1 H1 σD1 Dn I1 ok1 q1) λ_ _ w'=>w'.back p1
 |brk=>exact z
 |cont=>exact z
 |ret v=>exact z⟩
theorem kz(h1:DSX X st t):DSXs X [st] t:=⟨λpins s σ H σD Dn I ok q=>by
 refine wpAny_execs_cons (thn (h1.run pins s σ H σD Dn I ok q) λf s1 z=>?_)
 cases f with
 |next=>exact wpAny_execs_nil z
 |brk=>exact z
 |cont=>exact z
 |ret v=>exact z⟩
theorem zo1{c:Expr}{a b:List Stmt}{tc:DTT}(hc:DT X.nox c tc)(ha:DSXs X a t)(hb:DSXs X b u):DSX X (.If c a b pos) (dIf tc t u):=⟨λpins s σ H σD Dn I ok q=>by
 refine wpAny_If (wpAny_mono (hc.run pins s σ H X.H₀ σD _ (I.wish _) ok q) (λd s1 ⟨H1,I1,sm,q1⟩=>?_) λ_ _ z=>False.elim z)
 cases d with
 |true=>rw[if_pos rfl]at q1;exact thn (ha.run pins s1 σ H1 σD Dn I1.unwish (ok.after sm) q1) λ_ _ z=>z.back sm.pers
 |false=>rw[if_neg Bool.false_ne_true]at q1;exact thn (hb.run pins s1 σ H1 σD Dn I1.unwish (ok.after sm) q1) λ_ _ z=>z.back sm.pers⟩
end
section
variable {P:Program}{w:World}{K:PySem.W.Frag}{mg:Str->Option Value}{base:Heap}{N:List Str}{qual:Str}{scope:Scope}{f:Addr}{cd:Value}{A:Around}{outer:List Env}{s:Shared}{H:Hp}{E:XK}
def zfc(ex:EX)(x:Str):DTS:=λ_ _=>ex (x,[])
theorem zg9{ex:EX}{x:Str}{C:Addr}{np cpos pos:Pos}(hE:∀c od H',XE K H ex c od H'->E c od H')(hh:A.handled=none)(hg:Gl (y6 (CXk P w) P w K mg base N qual scope f cd A outer s H E) x)(hm:mg x=some (.ref C))(hn:PySem.W.nsIn K mainGlobals x=some (some (.ref C)))
  (q:PySem.W.excIn K C [.type "ValueError",.type "Exception",.type "BaseException",.type "object"] "ValueError.__new__" = true) (hdb:(x ==("__debug__" : Str))=false:=by decide) :
  DSX (y6 (CXk P w) P w K mg base N qual scope f cd A outer s H E) (.Raise (some (.Call (.Name x np) [] [] cpos)) none pos) (zfc ex x) :=
 ⟨λpins s1 σ H1 σD Dn I ok qq=>zoz I hh hg hm q (hE _ _ _ ⟨(x,[]),C,rfl,hn,ok.same,.inl ⟨rfl,rfl⟩,qq⟩) hdb⟩
end
section
variable {P:Program}{w:World}{K:PySem.W.Frag}{mg:Str->Option Value}{base:Heap}
theorem Fun.dokX{x qual:Str}{st:Stmt}{f:Addr}{fd:FuncData}{N ps:List Str}{k:Nat}{sp:zbh}(F:Fun K x qual st f fd)(S:zm N ps (zb st))(len:∀ws Q ex,sp ws Q ex->ws.length=ps.length)
  (hbody:∀(cdv:Value) (A:Around) (outer:List Env) (s:Shared) (H:Hp) (ws:List W) (Q:Ret->Prop) (ex:EX) (E:XK),Room k (A.deeper (envOfC qual (zb st) s.heap.objs.size f cdv))->sp ws Q ex->(∀c od H',XE K H ex c od H'->E c od H') ->
   ∃t,DSXs (y6 (CXk P w) P w K mg base N qual (zb st) f cdv A outer s H E) (zy st) t/\t { nx:=λ_=>Q (.val .none),rt:=Q } (xi N ws)):FnOk P w K mg base (CXk P w) (k+1) f fd ps (xr K sp):=by
 obtain⟨oc,od,kV,doc,pm,an,cdv,ct,osl,rfl,lk,hcd⟩:=F.ex;refine zh7 lk hcd S (λvs H Q E ⟨ws,QD,ex,r,q,_⟩=>by rw[<-r.length];exact len ws QD ex q) λA outer s H vs Q E hr ⟨ws,QD,ex,r,q,kk,ke⟩=>?_;obtain⟨t,ht,hq⟩:=hbody cdv A outer s H ws QD ex E hr q ke;refine⟨λD σ H1=>∃σD Dn,DOk K H H1 σD σ/\t Dn σD/\(∀σ' H' σD',DOk K H H' σD' σ'->Dn.nx σD'->D.nx σ' H')/\(∀v H' r,Same H H'->ko K H H' r v->Dn.rt r->D.rt v H')/\(∀σD',Dn.bk σD'->False)/\∀σD',Dn.ct σD'->False,?_,?_⟩
 ·intro pins s1 σ H1 D I ⟨σD,Dn,ok,q1,k1,k2,k3,k4⟩;refine thn (ht.run pins s1 σ H1 σD Dn I ok q1) λfl s' z=>?_
  cases fl with
  |next=>obtain⟨a,b,c,e1,e2,e3,e4⟩:=z;exact⟨a,b,e1,k1 a b c e2 e4⟩
  |brk=>obtain⟨a,b,c,e1,e2,e3,e4⟩:=z;exact(k3 _ e4).elim
  |cont=>obtain⟨a,b,c,e1,e2,e3,e4⟩:=z;exact(k4 _ e4).elim
  |ret u=>obtain⟨v,a,b,r,e1,e2,e3,e4,e5⟩:=z;exact⟨v,a,b,e1,e2,k2 v b r e3 e4 e5⟩
 ·exact⟨_,_,DOk.begin r N,hq,λσ' H' σD' ok' q'=>kk .non H' (.val .none) ok'.same .non q',λv H' r' sm rp qr=>kk v H' r' sm rp qr,λ_ z=>z.elim,λ_ z=>z.elim⟩
end
theorem zha{K:PySem.W.Frag}{M:Model}{A:Around}{E:Value->Shared->Prop}{s:Shared}{C CK a:Addr}{oe:Obj}{Q:Bool->Shared->Prop}(X:K.In s.heap)(he:s.heap.get? a=some oe)(hc:oe.cls=.ref C)
  (e:PySem.W.kitCls K (.ref C) (.ref CK)=some true) (b:PySem.W.subIn K (.ref CK) (.type "BaseException")=some true) (q:Q true s):wpAny M A (excMatches (.ref a) (.ref CK)) Q E s:=by
 obtain⟨L1,L2,L3⟩:=PySem.W.kit_cls (M:=M) X e;have L4:=PySem.W.looks_subIn (M:=M) X b;have Lt:PySem.W.Looks M s.heap (typeOf (.ref a)) (.ref C):=hc ▸ (PySem.W.Looks.ld he).andThen .now;have Li:PySem.W.Looks M s.heap (isInstance (.ref CK) (.type "tuple")) false:=L1.andThen (PySem.W.Looks.of_pure tc_notTuple);have Le:PySem.W.Looks M s.heap (isExcClass (.ref CK)) true:=L2.andThen L4;unfold excMatches;refine wpAny_bind (Li.here ?_);refine wpAny_bind (wpAny_pure ?_);simp only[List.forIn_cons,List.forIn_nil];refine wpAny_bind (wpAny_bind (wpAny_bind (Le.here ?_)));refine wpAny_pure ?_;refine wpAny_pure ?_;refine wpAny_bind (Lt.here ?_);refine wpAny_bind (wpAny_bind (wpAny_bind (L3.here ?_)));exact wpAny_pure (wpAny_pure (wpAny_pure q))
structure zlr(K:PySem.W.Frag)(CK C:Addr):Prop where
 sub:PySem.W.kitCls K (.ref C) (.ref CK)=some true
 bas:PySem.W.subIn K (.ref CK) (.type "BaseException")=some true
theorem zls{P:Program}{w:World}{H:Hp}{h:Heap}{a C:Addr}{od:Option Addr}(hy:Fly h a (.ref C) od):ObjOk P w H h a (ji C od a):=by
 obtain⟨oe,vs,_,_,_,he,⟨h1,h2⟩,hd,_⟩:=hy;exact⟨⟨oe,he,h1,h2,vs,hd⟩,⟨oe,he⟩,λ_ _ ⟨o,e1,r⟩ k=>⟨o,k o e1,r⟩⟩
section
variable {X:Cx}{pins:List (Addr×Obj)}{σ:St}{H H₀:Hp}{s s':Shared}{E:XK}{e:Value}
theorem zo2{Q:Flow->Shared->Prop}{E':Value->Shared->Prop}{n kn:Str}{i:Nat}{b0:Stmt}{suite:List Stmt}{kp hpos:Pos}{CK:Addr}(I:Inv X pins σ H s)(hX:X.stack=X.env::X.outer)(hF:X.env.frame=some X.env.locals)(hx:CXk X.prog X.w X.stack H s E e s')
  (hg:Gl X kn) (hm:X.mg kn=some (.ref CK)) (hdb:(kn ==("__debug__" : Str))=false) (hN:X.N.Nodup) (hi:X.N[i]?=some n) (hl:X.env.scope.names.lookup n=some .local)
  (hE:∀C od H',E (.ref C) od H'->zlr X.K CK C/\∀a,H' a=none->∀s2,Inv (X.held (.ref a)) pins (σ.set i (some (.ref a))) (upd H' a (ji C od a)) s2 ->
   wpAny (model X.prog X.w) (X.held (.ref a)).A (execs (b0::suite) X.env) (λf s3=>∃σ3 H3,Inv X pins σ3 H3 s3/\∀s4,Inv X pins (List.replicate X.N.length none) H3 s4->Q f s4) (λ_ _=>False) s2) :
  wpAny (model X.prog X.w) X.A (noteFrame e X.env) (λ_ s2=>wpAny (model X.prog X.w) X.A (setFlight e none) (λ_ s3=>wpAny (model X.prog X.w) X.A (handleBy e X.env [.ExceptHandler (some (.Name kn kp)) (some n) (b0::suite) hpos]) Q E' s3) E' s2) E' s':=by
 obtain⟨a,C,od,H',rfl,os,bare,un,hok,new,fr,fly,hE'⟩:=hx;obtain⟨XC,hsuite⟩:=hE C od H' hE';have J:Inv X pins σ H' s':=I.call' os un hok bare (λb hb=>nomatch hb);refine zmr (base:=X.base) (outer:=X.outer) (by rw[I.ok.frames,hX]) (by rw[<-hX];exact J.stack) hF (.inl fly) λh2 S F2=>?_;rw[<-hX]at S;have hok2:HOk X.prog X.w H' h2:=hok.sl S J.stkFree fr;have un2:=un.sl S (λb o hb _=>hb) new;have ne:∀b u,H' b=some u->b≠a:=λb u q z=>by rw[z,fr]at q;cases q
 have up:∀b u,H' b=some u->upd H' a (ji C od a) b=some u:=λb u q=>by rw[zd (ne b u q)];exact q
 have un3:Un (frs X.stack) [] H (upd H' a (ji C od a)) s.heap h2:=⟨un2.keep,un2.slot,λb o e n hx=>by
   rw[zd (λz=>by rw[z,new]at e;cases e)];exact un2.free b o e n hx,un2.there,λb xs e=>up _ _ (un2.tups b xs e),λb o u e=>up _ _ (un2.frzs b o u e),λb ps e=>by
   obtain⟨m,q⟩:=un2.tbls b ps e;exact⟨m,up _ _ q⟩⟩
 have hok3:HOk X.prog X.w (upd H' a (ji C od a)) h2:=λb u q=>by
  by_cases z:b=a
  ·subst z;rw[ze]at q
   cases q;exact zls F2
  ·rw[zd z]at q;exact(hok2 b u q).stay (λ_ _ _ q=>q) (λc q=>up _ _ q) (λc xs q=>up _ _ q) λc _ _ q=>up _ _ q
 have I2:Inv X pins σ (upd H' a (ji C od a)) { s' with heap:=h2 }:=I.call' (s':={ s' with heap:=h2 }) os un3 hok3 bare (λb hb=>nomatch hb);have I3:=I2.held (.ref a);refine wpAny_handleBy_cons (codeAny_handlers_test (vz I3 hg hm ?_ hdb)) (by intro q;cases q);obtain⟨oe,vs,_,_,_,he,⟨hc,_⟩,_⟩:=id F2;refine zha (s:={ s' with heap:=h2 }) I2.kIn he hc XC.sub XC.bas ?_;refine codeAny_handlers_suite_as (zq3 (s:={ s' with heap:=h2 }) F2 λh3 same=>?_);have I4:=I3.kept (h':=h3) (t':=s'.toks) λb u q=>by rw[same];exact q
 refine w5 (X:=X.held (.ref a)) I4 hN hi (.inl hl) (v:=.ref a) rfl (λs4 I5=>?_) (.inr hl);refine wpAny_mono (hsuite a fr s4 I5) (λf s5 ⟨σ5,H5,I6,k⟩=>?_) λ_ _ z=>False.elim z;obtain⟨m,hn,_⟩:=I6.loc;exact wpAny_nameGoes hl hn (by rw[I.ok.kind];rfl) λh6 m6 hn6 hs6=>k _ (I6.goes hn6 hs6 _)
end
section
variable {X:Cx}
end
end L2
namespace L2
open PySem PySem.Spec PyProof.Rows PySem.W
section
variable {prog:Program}{w:World}{A:Around}{E:Value->Shared->Prop}{s:Shared}{K:Frag}{x C:Addr}{ox:Obj}{od:Option Obj}
theorem zhb{nameV:Value}{Q:Unit->Shared->Prop}{M:Model}(X:K.In s.heap)(I:InstAt s.heap x ox C od)(hb:mroIn K C (.type "BaseException")=some true)(q:Q () s):
  wpAny M A (checkBuiltinCall "BaseException.__getattribute__" ⟨[.ref x,nameV],[]⟩) Q E s:=by
 have hk:builtinKind "BaseException.__getattribute__" = some .slot:=by decide +kernel
 have hsplit:splitId "BaseException.__getattribute__" = some ("BaseException", "__getattribute__"):=by decide +kernel
 have L1:Looks M s.heap (isInstance (.ref x) (.type "BaseException")) true:=I.type.andThen (looks_mroIn X hb);have ha:=PySem.F.args_bexc_ga (.ref x) nameV;simp only[checkBuiltinCall,hk,hsplit];refine wpAny_bind (L1.here ?_)
 repeat (any_goals (first|assumption|wp_step))
theorem zcr{tk:Tok}{R:Result->Shared->Prop}(X:K.In s.heap)(I:InstAt s.heap x ox C od)(hb:mroIn K C (.type "BaseException")=some true)
  (hf:findObj K C od "__class__" = some (.bind (.builtin "getset_descriptor.__get__") (.builtin "object.__class__"))) (hm:mroIn K C (.type "object")=some true) (q:R (.ok (.ret (.ref C))) s) :
  codeAny (model prog w) A (.call (.builtin "BaseException.__getattribute__") ⟨[.ref x,.str "__class__" tk],[]⟩) R s:=by
 refine codeAny_call_builtin PySem.F.attr_ValueError.ga.plain PySem.F.entry_bexc_ga (zhb X I hb ?_);have L0:=I.type (M:=model prog w);have L1:=looks_find (M:=model prog w) X I hf;obtain⟨hh,g,dr,t,os⟩:=s;unfold Builtin.«object.__getattribute__»
 repeat (any_goals (first|assumption|exact L0.at ‹_›|wp_step))
 refine wpAny_loadPart_at I.at_ (wpAny_pure ?_);rw[I.cls];refine wpAny_bind (L1.at ?_);unfold Builtin.ObjectAttr.bindTo
 repeat (any_goals (first|assumption|wp_step))
 exact class_get X I hm (wpAny_pure q)
theorem zhc{Q:Option Value->Shared->Prop}(X:K.In s.heap)(I:InstAt s.heap x ox C od)(hga:findIn K (.ref C) "__getattribute__" = some (some (.builtin "BaseException.__getattribute__")))(hhk:findIn K (.ref C) "__getattr__" = some none)(hb:mroIn K C (.type "BaseException")=some true)
  (hf:findObj K C od "__class__" = some (.bind (.builtin "getset_descriptor.__get__") (.builtin "object.__class__"))) (hm:mroIn K C (.type "object")=some true) (q:Q (some (.ref C)) { s with toks:=s.toks+1 }) :
  wpAny (model prog w) A (getAttr? (.ref x) "__class__") Q E s:=by
 have L0:=I.type (M:=model prog w);have L1:=looks_findIn (M:=model prog w) X hga;have L2:=looks_findIn (M:=model prog w) X hhk;obtain⟨hh,g,d,t,os⟩:=s;unfold getAttr? getAttrBy? getAttrBy;refine wpAny_bind (wpAny_mkText (wpAny_bind (wpAny_attempt (wpAny_holding (wpAny_bind (L0.at (wpAny_bind (L1.at ?_))))))));dsimp only;rw[if_neg (by rw[show(Value.builtin "BaseException.__getattribute__" == Value.builtin "object.__getattribute__")=false by decide +kernel,Bool.and_false];decide)];unfold getAttrByItsOwn hookBefore;rw[if_pos (by rfl)];refine wpAny_bind (L2.at (wpAny_bind (wpAny_attempt (wpAny_holding ?_))));unfold callGetattribute;rw[if_neg (by decide +kernel)];unfold boundAndCalled;refine wpAny_bind (wpAny_of_eq (PySem.F.attr_ValueError.ga.bind (.ref x)) ?_);refine wpAny_call (zcr (s:=⟨hh,g,d,t+1,os⟩) X I hb hf hm ?_);exact handed_on rfl (wpAny_pure q)
end
structure XIs(K:Frag)(C:Addr):Prop where
 ga:findIn K (.ref C) "__getattribute__" = some (some (.builtin "BaseException.__getattribute__"))
 hk:findIn K (.ref C) "__getattr__" = some none
 bas:mroIn K C (.type "BaseException")=some true
 dct:hasDictIn K C=true
 fnd:findIn K (.ref C) "__class__" = some (some (.builtin "object.__class__"))
 spc:specialIn K (.builtin "object.__class__") "__get__" = some (some (.builtin "getset_descriptor.__get__"))
 tks:takesIn K (.builtin "object.__class__")=some true
 mro:mroIn K C (.type "object")=some true
theorem k6{K:Frag}{C:Addr}(h:hasDictIn K C=true):∃cd,clsIn K C=some cd/\∃c d sl,K.lookup C=some ⟨c,d,.cls cd,sl⟩:=by
 unfold hasDictIn at h
 cases e:clsIn K C with
 |none=>rw[e]at h;cases h
 |some cd=>
  refine⟨cd,rfl,?_⟩;unfold clsIn at e
  split at e
  ·next ho=>cases e;exact⟨_,_,_,ho⟩
  ·cases e
theorem zds{K:Frag}{a C:Addr}(Z:XIs K C):KitX K (.ref a) (.ref C) (λh=>∃ox od,InstAt h a ox C od) where
 ty:=λM h _ ⟨ox,od,I⟩=>I.type
 it:=λM h X _=>by
  obtain⟨cd,_,c,d,sl,ho⟩:=k6 Z.dct;exact(Looks.ld (X _ _ ho)).andThen .now
 ne:=λh tp dd its n sl X htp=>by
  obtain⟨cd,_,c,d,sl',ho⟩:=k6 Z.dct
  cases q:(Value.ref C == Value.ref tp) with
  |false=>rfl
  |true=>
   cases beq_iff_eq.mp q;have z:=(X _ _ ho).symm.trans htp
   cases z
 ca:=λ{prog w A E Q s} X ⟨ox,od,I⟩ k=>by
  obtain⟨cd,hc,_⟩:=k6 Z.dct;have hf:findObj K C od "__class__" = some (.bind (.builtin "getset_descriptor.__get__") (.builtin "object.__class__")):=by
   unfold findObj;rw[hc,Option.bind_some,Z.fnd,Option.bind_some];simp[Z.spc,Z.tks]
  exact zhc X I Z.ga Z.hk Z.bas hf Z.mro k
section
variable {X:Cx}{pins:List (Addr×Obj)}{σ:St}{H:Hp}{s:Shared}
def XDc(H:Hp)(od:Option Addr):Prop:=od=none\/∃d fs,od=some d/\H d=some (.xd fs)
theorem XDc.of{K:Frag}{x:Str×List (Str×Int)}{od:Option Addr}(h:(x.2 = []/\od=none)\/∃d,od=some d/\H d=some (.xd (x.2.map λp=>(p.1,V.int p.2)))):XDc H od:=by
 rcases h with h |⟨d,e,h⟩
 ·exact .inl h.2
 ·exact .inr ⟨d,_,e,h⟩
theorem zdt(I:Inv X pins σ H s){a C:Addr}{od:Option Addr}(h:H a=some (ji C od a))(hd:XDc H od):∃ox oo,InstAt s.heap a ox C oo:=by
 obtain⟨⟨oe,he,hc,hdi,vs,hf⟩,_,_⟩:=I.hok _ _ h;have hno:notCls oe=true:=by unfold notCls;rw[hf]
 rcases hd with rfl |⟨d,fs,rfl,hx⟩
 ·exact⟨oe,none,he,hc,hno,by rw[hdi];trivial⟩
 ·obtain⟨o,ho⟩:=(I.hok _ _ hx).ex;exact⟨oe,some o,he,hc,hno,by rw[hdi];exact ho⟩
def zhd(i:Nat)(tab:Str->Option Bool):DTE:=λσ Q=>match σ[i]? with
 |some (some (.exc x))=>(match tab x.1 with
  |some b=>Q (.bool b)
  |none=>False)
 |_=>False
variable {e:Expr}{pos p:Pos}
theorem ve(i:Nat){x:Str}{px:Pos}{tab:Str->Option Bool}{c:Value}{cv:V}(rc:∀u,RelV cv u->u=c)(hk:∀nm b,tab nm=some b->∀C,nsIn X.K mainGlobals nm=some (some (.ref C))->XIs X.K C/\kitOne X.K (.ref C) c=some b)
  (hg:Gl X "isinstance") (hm:X.mg "isinstance" = none) (hv:bootBuiltins "isinstance" = some (.builtin "isinstance")) (h2:PE X e (tC cv)) (hN:X.N[i]?=some x:=by rfl) (hvs:Vis X.env.scope x:=by first|exact Or.inl rfl|exact Or.inr (Or.inl rfl)|exact Or.inr (Or.inr rfl))
  (hd:(x ==("__debug__" : Str))=false:=by decide) (hcd:(x ==("__classdict__" : Str))=false:=by decide)
  (he:starEach [.Name x px,e] X.env=(false,eval (.Name x px) X.env)::starEach [e] X.env:=by rfl) (he2:starEach [e] X.env=(false,eval e X.env)::starEach [] X.env:=by rfl) (hpl:(backTo pos (starEach [e] X.env)).any (·.1)=false:=by rfl) :
  DE X (.Call (.Name "isinstance" p) [.Name x px,e] [] pos) (zhd i tab):=by
 have hc:xm X (.builtin "isinstance") (λvs H Q=>∃nm b a C od,vs = [.ref a,cv]/\tab nm=some b/\nsIn X.K mainGlobals nm=some (some (.ref C))/\H a=some (ji C od a)/\XDc H od/\Q (.bl b) H):=λpins s σ H xs us Q I rv ⟨nm,b,a,C,od,e,ht,hn,ha,hd,q⟩=>by
  subst e;obtain⟨u,w,rfl,r1,r2⟩:=rv.two
  cases r1
  cases rc _ r2;obtain⟨Z,ek⟩:=hk nm b ht C hn;exact kia_one (zds Z) I.kIn (zdt I ha hd) ek (λz=>nomatch z) λtk=>⟨.bl b,H,I.tok tk,rfl,q⟩
 refine DE.of (wb hc hg hm hv (zn (yg (i:=i) hN hvs hd hcd) (zn h2 ye he2) he) (by decide) (by decide) he hpl) λσ H H₀ σD QD ok q=>?_;unfold zhd at q
 split at q
 ·next x' e'=>
  obtain⟨v,e1,a,C,od,rfl,hn,ha,hf⟩:=ok.exc e'
  split at q
  ·next b ht=>exact⟨.ref a,e1,x'.1,b,a,C,od,rfl,ht,hn,ha,XDc.of (K:=X.K) hf,.bool b,Same.refl _,.bl,q⟩
  ·exact q.elim
 ·exact q.elim
theorem zlt(i:Nat){x:Str}{px tp:Pos}{k:Nat}{es:List Expr}{tab:Str->Option Bool}{cs:List Value}{cvs:List V}(rc:∀us,Vals cvs us->us=cs)(hk:∀nm b,tab nm=some b->∀C,nsIn X.K mainGlobals nm=some (some (.ref C))->XIs X.K C/\kitAny X.K (.ref C) cs=some b)
  (hg:Gl X "isinstance") (hm:X.mg "isinstance" = none) (hv:bootBuiltins "isinstance" = some (.builtin "isinstance")) (h2:PA X es (λ_ H Q=>Q cvs H)) (hz:cvs.length<=sizeLine) (hN:X.N[i]?=some x:=by rfl) (hvs:Vis X.env.scope x:=by first|exact Or.inl rfl|exact Or.inr (Or.inl rfl)|exact Or.inr (Or.inr rfl))
  (hd:(x ==("__debug__" : Str))=false:=by decide) (hcd:(x ==("__classdict__" : Str))=false:=by decide)
  (he:starEach [.Name x px,.Tuple es k tp] X.env=(false,eval (.Name x px) X.env)::starEach [.Tuple es k tp] X.env:=by rfl) (he2:starEach [.Tuple es k tp] X.env=(false,eval (.Tuple es k tp) X.env)::starEach [] X.env:=by rfl) (hpl:(backTo pos (starEach [.Tuple es k tp] X.env)).any (·.1)=false:=by rfl) :
  DE X (.Call (.Name "isinstance" p) [.Name x px,.Tuple es k tp] [] pos) (zhd i tab):=by
 have hc:xm X (.builtin "isinstance") (λvs H Q=>∃nm b a C od q,vs = [.ref a,.ref q]/\tab nm=some b/\nsIn X.K mainGlobals nm=some (some (.ref C))/\H a=some (ji C od a)/\XDc H od/\SqT X.K H q cvs/\Q (.bl b) H):=λpins s σ H xs us Q I rv ⟨nm,b,a,C,od,tq,e,ht,hn,ha,hd,hq,q⟩=>by
  subst e;obtain⟨u,w,rfl,r1,r2⟩:=rv.two
  cases r1
  cases r2;obtain⟨Z,ek⟩:=hk nm b ht C hn;obtain⟨its,rr,⟨⟨c',dd,dt,sl⟩,h1,h2,⟨n,h3⟩,_⟩,_⟩:=I.tupleD hq
  cases rc _ rr;simp only at h2 h3;subst h2 h3;exact kia_tup (zds Z) I.kIn (zdt I ha hd) h1 ek (λz=>nomatch z) λtk=>⟨.bl b,H,I.tok tk,rfl,q⟩
 refine DE.of (wb hc hg hm hv (zn (yg (i:=i) hN hvs hd hcd) (zn (zer h2) ye he2) he) (by decide) (by decide) he hpl) λσ H H₀ σD QD ok q=>?_;unfold zhd at q
 split at q
 ·next x' e'=>
  obtain⟨v,e1,a,C,od,rfl,hn,ha,hf⟩:=ok.exc e'
  split at q
  ·next b ht=>
   refine⟨.ref a,e1,hz,λtq hq=>?_⟩;have sm:=zt hq (.tup cvs);have ok2:=ok.after sm;obtain⟨v2,e2,a2,C2,od2,rfl,hn2,ha2,hf2⟩:=ok2.exc e';rw[e1]at e2
   cases e2;exact⟨x'.1,b,a,C2,od2,tq,rfl,ht,hn2,ha2,XDc.of (K:=X.K) hf2,SqT.of ze,.bool b,sm,.bl,q⟩
  ·exact q.elim
 ·exact q.elim
theorem zjh:PA X [] (λ_ H Q=>Q [] H):=ye
theorem v6{es:List Expr}{v:V}{vs:List V}(h:PE X e (tC v))(t:PA X es (λ_ H Q=>Q vs H))(hs:starEach (e::es) X.env=(false,eval e X.env)::starEach es X.env:=by rfl):PA X (e::es) (λ_ H Q=>Q (v::vs) H):=zn h t hs
def zcs:DTE:=λ_ _=>False
theorem v7:DE X e zcs:=⟨λ_ _ _ _ _ _ _ _ _ h=>h.elim⟩
theorem zji{k:Nat}(hr:Room0 k X.A):OpD X (compareOp .Eq) gEq:=⟨λpins s σ H x y v u a b Q I rx ry ra rb q=>by
 have G:=(zmk (X:=X) hr.units).run pins s σ H x y v u a b Q I rx ry ra rb;have S:=(zf7 (X:=X) (f:=λ_ _=>true) false .Eq zhz).run pins s σ H x y v u a b Q I rx ry ra rb
 cases a <;> cases b <;> first|exact S q|exact G q⟩
theorem zq4{k:Nat}(hr:Room0 k X.A):OpD X (compareOp .NotEq) gNe:=⟨λpins s σ H x y v u a b Q I rx ry ra rb q=>by
 have G:=(zml (X:=X) hr.units).run pins s σ H x y v u a b Q I rx ry ra rb;have S:=(zf7 (X:=X) (f:=λ_ _=>true) true .NotEq zme).run pins s σ H x y v u a b Q I rx ry ra rb
 cases a <;> cases b <;> first|exact S q|exact G q⟩
def zlu(k:Bool):Value->Bool
 |.bool i=>i == k
 |_=>false
theorem qu:∀{bs:List Bool}{its:List Value},Vals (bs.map V.bl) its->its=bs.map Value.bool
 |[],_,.nil=>rfl
 |b::bs,_,.cons h t=>by
  have h:_=Value.bool b:=h;rw[h,qu t];rfl
theorem zhe:MtR X "list.count" (λx vs H Q=>∃(l:Addr) (bs:List Bool) (k:Bool),x=.ref l/\vs = [.bl k]/\Rd H l (.lst (bs.map V.bl))/\Q (.int ((bs.count k:Nat):Int)) H):=by
 intro pins s σ H x vs v us Q I rx rv h;obtain⟨l,bs,k,rfl,rfl,hR,q⟩:=h
 cases rx;obtain⟨u,rfl,ru⟩:=rv.one
 cases ru;obtain⟨z,its,n,r,e⟩:=hR.ok I.hok
 cases qu r;refine call_meets F.slot_list_count ⟨_,e,rfl⟩ F.entry_list_count (F.args_list_count_2 _ _) (PySem.SeqAt.list_countAt l (bs.map Value.bool).toArray n none #[] (.bool k) (zlu k)) ⟨e,λy hy=>?_,?_⟩
 ·obtain⟨b,_,rfl⟩:=List.mem_map.mp (List.mem_toArray.mp hy);exact PySem.SeqAt.EqAt.bool_bool b k
 ·have ec:(bs.map Value.bool).countP (zlu k)=bs.count k:=by
   rw[List.countP_map];rfl
  rw[List.toList_toArray,ec];exact⟨.int ((bs.count k:Nat):Int),H,I.tok _,⟨_,rfl⟩,q⟩
theorem zhf:MtR X "list.index" (λx vs H Q=>∃(l:Addr) (bs:List Bool) (k:Bool) (j:Nat),x=.ref l/\vs = [.bl k]/\Rd H l (.lst (bs.map V.bl))/\bs.findIdx? (· == k)=some j/\Q (.int (j:Int)) H):=by
 intro pins s σ H x vs v us Q I rx rv h;obtain⟨l,bs,k,j,rfl,rfl,hR,hj,q⟩:=h
 cases rx;obtain⟨u,rfl,ru⟩:=rv.one
 cases ru;obtain⟨z,its,n,r,e⟩:=hR.ok I.hok
 cases qu r;obtain⟨hlt,hit,hno⟩:=List.findIdx?_eq_some_iff_getElem.mp hj;rw[List.length_map]at z;have zl:=sizeLine_eq;refine call_meets F.slot_list_index ⟨_,e,rfl⟩ F.entry_list_index (F.args_list_index_2 _ _) (PySem.SeqAt.list_indexAt l (bs.map Value.bool).toArray n none #[] (.bool k) (zlu k) j (by simpa using hlt) (by omega) ?_ λm hm hmj=>?_) ⟨e,λy hy=>?_,?_⟩
 ·simp only[List.getElem_toArray,List.getElem_map];exact hit
 ·simp only[List.getElem_toArray,List.getElem_map];have:=hno m hmj;simpa[zlu]using this
 ·obtain⟨b,_,rfl⟩:=List.mem_map.mp (List.mem_toArray.mp hy);exact PySem.SeqAt.EqAt.bool_bool b k
 ·exact⟨.int (j:Int),H,I.tok _,⟨_,rfl⟩,q⟩
variable {o:Expr}{to te:DTE}{apos cpos:Pos}
def zjj(to te:DTE):DTE:=λσ Q=>to σ λd=>match d with
 |.list xs=>te σ λk=>(match k with
  |.bool c=>(match xp xs with
   |some bs=>Q (.int ((bs.count c:Nat):Int))
   |none=>False)
  |_=>False)
 |_=>False
def zjk(to te:DTE):DTE:=λσ Q=>to σ λd=>match d with
 |.list xs=>te σ λk=>(match k with
  |.bool c=>(match xp xs with
   |some bs=>(match bs.findIdx? (· == c) with
    |some j=>Q (.int (j:Nat))
    |none=>False)
   |none=>False)
  |_=>False)
 |_=>False
theorem zhg(ho:DV X o to)(ha:DE X e te)(hbase:attributeBase o "count" X.env (eval o X.env)=eval o X.env:=by rfl)
  (hfew:((backTo cpos (starEach [e] X.env)).all (λx=>!x.1) && (backToKw cpos (keywordEach [] X.env)).all (λx=>x.1.isSome) && decide (([e]:List Expr).length+([]:List Keyword).length+(if ([]:List Keyword).isEmpty then 0 else 1)<30))=true:=by rfl)
  (hline:(apos.endLine == cpos.line)=true:=by rfl) (hs:starEach [e] X.env=(false,eval e X.env)::starEach [] X.env:=by rfl) (hplain:(backTo cpos (starEach [] X.env)).any (·.1)=false:=by rfl) :
  DE X (.Call (.Attribute o "count" apos) [e] [] cpos) (zjj to te) :=
 DE.of (zby F.plainAttrs_list F.slot_list_count F.type_list_count zhe ho.pe (zn ha.pe ye hs) hbase hfew hline hs hplain) λσ H H₀ σD QD ok q=>⟨H₀,σD,_,ok,q,λv H1 d s1 r1 q1=>by
  cases d with
  |list xs=>
   obtain⟨a,vs,rfl,hR,rp⟩:=r1.list;refine⟨.inl ⟨rfl,vs,.inl hR⟩,H₀,σD,_,ok.after s1,q1,λv2 H2 d2 s2 r2 q2=>?_⟩
   cases d2 with
   |bool c=>
    cases r2;dsimp only at q2
    split at q2
    ·next bs hb=>
     have e:=wg rp hb;subst e;refine⟨a,bs,c,rfl,rfl,s2.rd hR,.int _,s1.trans s2,.int,q2⟩
    ·exact q2.elim
   |_=>exact q2.elim
  |_=>exact q1.elim⟩
theorem zhh(ho:DV X o to)(ha:DE X e te)(hbase:attributeBase o "index" X.env (eval o X.env)=eval o X.env:=by rfl)
  (hfew:((backTo cpos (starEach [e] X.env)).all (λx=>!x.1) && (backToKw cpos (keywordEach [] X.env)).all (λx=>x.1.isSome) && decide (([e]:List Expr).length+([]:List Keyword).length+(if ([]:List Keyword).isEmpty then 0 else 1)<30))=true:=by rfl)
  (hline:(apos.endLine == cpos.line)=true:=by rfl) (hs:starEach [e] X.env=(false,eval e X.env)::starEach [] X.env:=by rfl) (hplain:(backTo cpos (starEach [] X.env)).any (·.1)=false:=by rfl) :
  DE X (.Call (.Attribute o "index" apos) [e] [] cpos) (zjk to te) :=
 DE.of (zby F.plainAttrs_list F.slot_list_index F.type_list_index zhf ho.pe (zn ha.pe ye hs) hbase hfew hline hs hplain) λσ H H₀ σD QD ok q=>⟨H₀,σD,_,ok,q,λv H1 d s1 r1 q1=>by
  cases d with
  |list xs=>
   obtain⟨a,vs,rfl,hR,rp⟩:=r1.list;refine⟨.inl ⟨rfl,vs,.inl hR⟩,H₀,σD,_,ok.after s1,q1,λv2 H2 d2 s2 r2 q2=>?_⟩
   cases d2 with
   |bool c=>
    cases r2;dsimp only at q2
    split at q2
    ·next bs hb=>
     split at q2
     ·next j hj=>
      have e:=wg rp hb;subst e;refine⟨a,bs,c,j,rfl,rfl,s2.rd hR,hj,.int _,s1.trans s2,.int,q2⟩
     ·exact q2.elim
    ·exact q2.elim
   |_=>exact q2.elim
  |_=>exact q1.elim⟩
end
end L2
namespace L2
open PySem PySem.Spec PyProof.Rows PySem.W
def qe(L:List Str)(t:Str):Str->Option Bool:=λnm=>if L.contains nm then some (nm == t) else none
def zhi(L:List Str)(b:Bool):Str->Option Bool:=λnm=>if L.contains nm then some b else none
section
variable {K:Frag}{C D:Addr}{t:Value}{b:Bool}
theorem xb(hd:hasDictIn K D=true)(ht:typeIn K (.ref D)=some (.type "type"))(hs:subIn K t (.ref D)=some b):kitCls K t (.ref D)=some b:=by
 obtain⟨cd,hc,_⟩:=k6 hd;show(if ((clsIn K D).isSome && typeIn K (.ref D) == some (.type "type"))=true then subIn K t (.ref D) else none)=some b;rw[hc,ht,if_pos (by rfl)];exact hs
theorem xn(h:C≠D)(k:kitCls K (.ref C) (.ref D)=some b):kitOne K (.ref C) (.ref D)=some b:=by
 unfold kitOne;rw[if_neg (λq=>h (Value.ref.inj (beq_iff_eq.mp q)))];exact k
theorem zdu:kitOne K (.ref C) (.ref C)=some true:=by
 unfold kitOne;rw[if_pos (by exact beq_self_eq_true _)]
theorem wd{T:String}(hm:kitMeta T=true)(hs:subIn K (.ref C) (.type T)=some b):kitOne K (.ref C) (.type T)=some b:=by
 unfold kitOne;rw[if_neg (λq=>by cases beq_iff_eq.mp q)];show(if kitMeta T=true then subIn K (.ref C) (.type T) else none)=some b;rw[if_pos hm];exact hs
theorem qa{c:Value}{cs:List Value}(h:kitOne K t c=some false)(r:kitAny K t cs=some b):kitAny K t (c::cs)=some b:=by
 unfold kitAny;rw[h];exact r
theorem zfd:kitAny K t []=some false:=rfl
theorem xt{P:Str->Prop}:∀r∈([]:List Str),P r:=λ_ h=>nomatch h
theorem y4{P:Str->Prop}{a:Str}{l:List Str}(h:P a)(t:∀r∈l,P r):∀r∈a::l,P r:=λr hr=>by
 rcases List.mem_cons.mp hr with rfl|hr
 ·exact h
 ·exact t r hr
theorem wj{c:Value->Prop}{L:List Str}{tab:Str->Option Bool}{F:Addr->Bool->Prop}(hL:∀nm b,tab nm=some b->nm∈L)
  (h:∀r∈L,∃C,nsIn K mainGlobals r=some (some (.ref C))/\∀b,tab r=some b->F C b):∀nm b,tab nm=some b->∀C,nsIn K mainGlobals nm=some (some (.ref C))->F C b:=λnm b e C hC=>by
 obtain⟨C',h1,h2⟩:=h nm (hL nm b e);rw[h1]at hC
 cases hC;exact h2 b e
theorem wk{L:List Str}{t:Str}:∀nm b,qe L t nm=some b->nm∈L:=λnm b e=>by
 unfold qe at e
 split at e
 ·next h=>exact List.contains_iff_mem.mp h
 ·cases e
theorem zgh{L:List Str}{v:Bool}:∀nm b,zhi L v nm=some b->nm∈L:=λnm b e=>by
 unfold zhi at e
 split at e
 ·next h=>exact List.contains_iff_mem.mp h
 ·cases e
theorem wl{tab:Str->Option Bool}{r:Str}{v:Bool}{F:Addr->Bool->Prop}(hC:nsIn K mainGlobals r=some (some (.ref C)))(ht:tab r=some v)(f:F C v):∃C,nsIn K mainGlobals r=some (some (.ref C))/\∀b,tab r=some b->F C b :=
 ⟨C,hC,λb e=>by rw[ht]at e;cases e;exact f⟩
theorem zq5{r:Str}{F:Addr->Prop}(hC:nsIn K mainGlobals r=some (some (.ref C)))(f:F C):∀D,nsIn K mainGlobals r=some (some (.ref D))->F D:=λD e=>by rw[hC]at e;cases e;exact f
theorem zdv:∀(ps:List (V×Value)),(∀p∈ps,∀u,RelV p.1 u->u=p.2)->∀us,Vals (ps.map (·.1)) us->us=ps.map (·.2)
 |[],_,_,.nil=>rfl
 |p::ps,h,_,.cons r t=>by rw[h p List.mem_cons_self _ r,zdv ps (λq hq=>h q (List.mem_cons_of_mem _ hq)) _ t];rfl
end
theorem wm{t R:DTS}{Dn:xf}{σ:DSt}(P:DSt->Prop)(h:∀N:DSt->Prop,(∀σ',P σ'->N σ')->t { Dn with nx:=N } σ)(k:∀σ',P σ'->R Dn σ'):ziz t R Dn σ:=h _ k
section
variable {X:Cx}
end
end L2
namespace L2
open PySem PySem.Spec PyProof.Rows
section
variable {X:Cx}
end
section
variable {K:PySem.W.Frag}{H₀ H:Hp}{σD:DSt}{σ:St}
theorem Slots.focus{fp:List Addr}(h:Slots K H₀ H σD σ fp){i:Nat}{o:O}(e:σD[i]?=some (some (.own o))):
  ∃v f g g',σ[i]?=some (some v)/\RepO K H o v f/\fp=g++(f++g')/\∀H' o' f',Pers H H'->(∀a,a∈g++g'->∀u,H a=some u->H' a=some u)->RepO K H' o' v f'->Slots K H₀ H' (clr (σD.set i (some (.own o')))) σ (g++(f'++g')):=by
 induction h generalizing i with
 |nil=>simp at e
 |none t ih=>
  cases i with
  |zero=>simp at e
  |succ i=>obtain⟨v,f,g,g',h1,h2,h3,h4⟩:=ih (i:=i) (by simpa using e);exact⟨v,f,g,g',by simpa using h1,h2,h3,λH' o' f' p k r=>.none (h4 H' o' f' p k r)⟩
 |val q t ih=>
  cases i with
  |zero=>simp at e
  |succ i=>obtain⟨v,f,g,g',h1,h2,h3,h4⟩:=ih (i:=i) (by simpa using e);exact⟨v,f,g,g',by simpa using h1,h2,h3,λH' o' f' p k r=>.val (q.mono p) (h4 H' o' f' p k r)⟩
 |vw q t ih=>
  cases i with
  |zero=>simp at e
  |succ i=>obtain⟨v,f,g,g',h1,h2,h3,h4⟩:=ih (i:=i) (by simpa using e);exact⟨v,f,g,g',by simpa using h1,h2,h3,λH' o' f' p k r=>.vw q (h4 H' o' f' p k r)⟩
 |vd q t ih=>
  cases i with
  |zero=>simp at e
  |succ i=>obtain⟨v,f,g,g',h1,h2,h3,h4⟩:=ih (i:=i) (by simpa using e);exact⟨v,f,g,g',by simpa using h1,h2,h3,λH' o' f' p k r=>.vd q (h4 H' o' f' p k r)⟩
 |exc q t ih=>
  cases i with
  |zero=>simp at e
  |succ i=>obtain⟨v,f,g,g',h1,h2,h3,h4⟩:=ih (i:=i) (by simpa using e);exact⟨v,f,g,g',by simpa using h1,h2,h3,λH' o' f' p k r=>.exc q (h4 H' o' f' p k r)⟩
 |scr q t ih=>
  cases i with
  |zero=>simp at e
  |succ i=>obtain⟨v,f,g,g',h1,h2,h3,h4⟩:=ih (i:=i) (by simpa using e);exact⟨v,f,g,g',by simpa using h1,h2,h3,λH' o' f' p k r=>.scr q (h4 H' o' f' p k r)⟩
 |pen q t ih=>
  cases i with
  |zero=>simp at e
  |succ i=>obtain⟨v,f,g,g',h1,h2,h3,h4⟩:=ih (i:=i) (by simpa using e);exact⟨v,f,g,g',by simpa using h1,h2,h3,λH' o' f' p k r=>.pen (p _ _ q rfl) (h4 H' o' f' p k r)⟩
 |tmp q t ih=>
  cases i with
  |zero=>simp at e
  |succ i=>obtain⟨v,f,g,g',h1,h2,h3,h4⟩:=ih (i:=i) (by simpa using e);exact⟨v,f,g,g',by simpa using h1,h2,h3,λH' o' f' p k r=>.none (h4 H' o' f' p k r)⟩
 |@own o0 v0 f0 ws wvs fp' q t ih=>
  cases i with
  |zero=>
   simp at e;subst e;refine⟨v0,f0,[],fp',rfl,q,rfl,λH' o' f' p k r=>?_⟩;rw[List.nil_append];exact .own r (t.keepC p λa ha u hu=>k a ha u hu)
  |succ i=>
   obtain⟨v,f,g,g',h1,h2,h3,h4⟩:=ih (i:=i) (by simpa using e);refine⟨v,f,f0++g,g',by simpa using h1,h2,by rw[h3,List.append_assoc],λH' o' f' p k r=>?_⟩;rw[List.append_assoc];refine .own (q.keep p λa ha u hu=>k a ?_ u hu) (h4 H' o' f' p (λa ha u hu=>k a ?_ u hu) r)
   ·exact List.mem_append_left _ (List.mem_append_left _ ha)
   ·rcases List.mem_append.mp ha with z|z
    ·exact List.mem_append_left _ (List.mem_append_right _ z)
    ·exact List.mem_append_right _ z
theorem DOk.focus(h:DOk K H₀ H σD σ){i:Nat}{o:O}(e:σD[i]?=some (some (.own o))):
  ∃v f,σ[i]?=some (some v)/\RepO K H o v f/\f.Nodup/\(∀a∈f,H₀ a=none)/\∀H' o' f',(∀a u,a∉f->H a=some u->H' a=some u)->f'.Nodup->(∀a∈f',a∈f\/H a=none)->RepO K H' o' v f' ->
   DOk K H₀ H' (clr (σD.set i (some (.own o')))) σ/\Pers H H':=by
 obtain⟨s,fp,sl,nd,fr⟩:=h;obtain⟨v,f,g,g',h1,h2,rfl,h4⟩:=sl.focus e;have nd':=nd;rw[List.nodup_append,List.nodup_append]at nd';obtain⟨ng,⟨nf,ng',dfg'⟩,dg⟩:=nd';have inf:∀a∈f,a∈g++(f++g'):=λa ha=>List.mem_append_right _ (List.mem_append_left _ ha);refine⟨v,f,h1,h2,nf,λa ha=>fr a (inf a ha),λH' o' f' k nf' hf' r=>?_⟩;have pr:Pers H H':=λa u ha hp=>k a u (λz=>by obtain⟨w,e1,e2⟩:=h2.live a z;rw[ha]at e1;cases e1;rw[e2]at hp;cases hp) ha;have off:∀a,a∈g++g'->a∉f:=λa ha z=>by
  rcases List.mem_append.mp ha with y|y
  ·exact dg a y a (List.mem_append_left _ z) rfl
  ·exact dfg' a z a y rfl
 have lv:∀a,a∈g++g'->H a≠none:=λa ha z=>by
  obtain⟨w,e1,_⟩:=sl.live a (by rcases List.mem_append.mp ha with y|y;exact List.mem_append_left _ y;exact List.mem_append_right _ (List.mem_append_right _ y));rw[z]at e1
  cases e1
 refine⟨⟨λa u ha=>k a u (λz=>by rw[fr a (inf a z)]at ha;cases ha) (s a u ha),_,h4 H' o' f' pr (λa ha u hu=>k a u (off a ha) hu) r,?_,λa ha=>?_⟩,pr⟩
 ·have nq:∀x∈g++g',∀y∈f',x≠y:=λx hx y hy z=>by
   subst z;rcases hf' x hy with q|q
   ·exact off x hx q
   ·exact lv x hx q
  rw[List.nodup_append,List.nodup_append];refine⟨ng,⟨nf',ng',λx hx y hy z=>nq y (List.mem_append_right _ hy) x hx z.symm⟩,λx hx y hy=>?_⟩;rcases List.mem_append.mp hy with q|q
  ·exact nq x (List.mem_append_left _ hx) y q
  ·exact dg x hx y (List.mem_append_right _ q)
 ·rcases List.mem_append.mp ha with q|q
  ·exact fr a (List.mem_append_left _ q)
  ·rcases List.mem_append.mp q with q|q
   ·rcases hf' a q with z|z
    ·exact fr a (inf a z)
    ·cases y:H₀ a with
     |none=>rfl
     |some u=>rw[s a u y]at z;cases z
   ·exact fr a (List.mem_append_right _ (List.mem_append_right _ q))
def O.bare:O->O
 |.anc _ o=>o.bare
 |o=>o
def O.with:O->O->O
 |.anc a o,o'=>.anc a (o.with o')
 |_,o'=>o'
theorem RepO.bare{o:O}{v:V}{f:List Addr}(h:RepO K H o v f):RepO K H o.bare v f:=by
 induction o with
 |anc a o ih=>exact ih h.2
 |_=>exact h
theorem RepO.ref{o:O}{v:V}{f:List Addr}(h:RepO K H o v f):∃a,v=.ref a:=by
 induction o with
 |anc a o ih=>exact⟨a,h.1⟩
 |lst xs=>obtain⟨a,_,e,_⟩:=h;exact⟨a,e⟩
 |dct xs=>obtain⟨a,_,e,_⟩:=h;exact⟨a,e⟩
 |nst xs ds=>obtain⟨a,_,_,e,_⟩:=h;exact⟨a,e⟩
 |ins c fs=>obtain⟨a,_,_,_,e,_⟩:=h;exact⟨a,e⟩
 |mix ms=>obtain⟨a,_,_,e,_⟩:=h;exact⟨a,e⟩
 |tk ks=>obtain⟨a,e,_⟩:=h;exact⟨a,e⟩
 |dcT ks=>obtain⟨a,_,e,_⟩:=h;exact⟨a,e⟩
 |fzT ks=>obtain⟨a,_,_,e,_⟩:=h;exact⟨a,e⟩
 |insL c fss=>obtain⟨a,_,e,_⟩:=h;exact⟨a,e⟩
theorem RepO.with{H':Hp}{o o':O}{v:V}{f f':List Addr}(h:RepO K H o v f)(h':RepO K H' o' v f'):RepO K H' (o.with o') v f':=by
 induction o with
 |anc a o ih=>exact⟨h.1,ih h.2⟩
 |_=>exact h'
end
def zjl(f:List Addr)(H:Hp):Hp:=λa=>if a∈f then none else H a
theorem zb9{f:List Addr}{H:Hp}{a:Addr}(h:a∈f):zjl f H a=none:=if_pos h
theorem zad{f:List Addr}{H:Hp}{a:Addr}(h:a∉f):zjl f H a=H a:=if_neg h
theorem zhj{f:List Addr}{H:Hp}:Same (zjl f H) H:=λa u h=>by
 by_cases z:a∈f
 ·rw[zb9 z]at h;cases h
 ·rw[zad z]at h;exact h
theorem zhk{K:PySem.W.Frag}{o:O}{v:V}{f:List Addr}{H:Hp}(r:RepO K H o v f):Pers H (zjl f H):=λa u h p=>by
 rw[zad]
 ·exact h
 ·intro z;obtain⟨w,e1,e2⟩:=r.live a z;rw[h]at e1
  cases e1;rw[e2]at p
  cases p
def W.plain:W->Bool
 |.val _=>true
 |.pen=>true
 |_=>false
theorem RepWs.mono{K:PySem.W.Frag}{H H':Hp}(p:Pers H H'){ws:List W}{vs:List V}(h:∀w∈ws,w.plain=true)(q:RepWs K H ws vs):RepWs K H' ws vs:=by
 induction q with
 |nil=>exact .nil
 |@cons w _ _ _ r t ih=>
  refine .cons ?_ (ih λx hx=>h x (List.mem_cons_of_mem _ hx));have:=h w List.mem_cons_self
  cases w with
  |val d=>exact Rep.mono p r
  |pen=>obtain⟨a,rfl,r⟩:=r;exact⟨a,rfl,p _ _ r rfl⟩
  |_=>cases this
abbrev xk:=List W->O->List W->(D->O->Prop)->Prop
def qi(K:PySem.W.Frag)(sp:xk):Sp:=λvs H Q _=>∃vp a vq ws o wq QD H₀ f,vs=vp ++ .ref a::vq/\RepWs K H₀ ws vp/\RepWs K H₀ wq vq/\RepO K H o (.ref a) f/\f.Nodup/\(∀b∈f,H₀ b=none)/\Same H₀ H/\sp ws o wq QD /\
 ∀v H' d o' f',Same H₀ H'->Rep K H' d v->RepO K H' o' (.ref a) f'->f'.Nodup->(∀b∈f',H₀ b=none)->QD d o'->Q v H'
structure zav where
 nx:DSt->Prop
 rt:D->DSt->Prop
 bk:DSt->Prop:=λ_=>False
 ct:DSt->Prop:=λ_=>False
abbrev GTS:=zav->DSt->Prop
def jz(K:PySem.W.Frag)(H₀ H:Hp)(Gn:zav):zed where
 nx:=λσ' H'=>∃σD',DOk K H₀ H' σD' σ'/\Pers H H'/\Gn.nx σD'
 bk:=λσ' H'=>∃σD',DOk K H₀ H' σD' σ'/\Pers H H'/\Gn.bk σD'
 ct:=λσ' H'=>∃σD',DOk K H₀ H' σD' σ'/\Pers H H'/\Gn.ct σD'
 rt:=λv H'=>∃σ' σD' d,DOk K H₀ H' σD' σ'/\Rep K H' d v/\Gn.rt d σD'
structure DGS(X:Cx)(st:Stmt)(t:GTS):Prop where
 run:∀(pins:List (Addr×Obj)) (s:Shared) (σ:St) (H H₀:Hp) (σD:DSt) (Gn:zav),Inv X pins σ H s->DOk X.K H₀ H σD σ->t Gn σD->wpAny (model X.prog X.w) X.A (exec st X.env) (SP X pins (jz X.K H₀ H Gn)) X.xe s
structure DGSs(X:Cx)(st:List Stmt)(t:GTS):Prop where
 run:∀(pins:List (Addr×Obj)) (s:Shared) (σ:St) (H H₀:Hp) (σD:DSt) (Gn:zav),Inv X pins σ H s->DOk X.K H₀ H σD σ->t Gn σD->wpAny (model X.prog X.w) X.A (execs st X.env) (SP X pins (jz X.K H₀ H Gn)) X.xe s
theorem SP.backG{X:Cx}{pins:List (Addr×Obj)}{H₀ H H1:Hp}{Gn:zav}{f:Flow}{s':Shared}(p:Pers H H1)(h:SP X pins (jz X.K H₀ H1 Gn) f s'):SP X pins (jz X.K H₀ H Gn) f s':=by
 cases f with
 |next=>obtain⟨a,b,e1,c,e2,e3,e4⟩:=h;exact⟨a,b,e1,c,e2,p.trans e3,e4⟩
 |brk=>obtain⟨a,b,e1,c,e2,e3,e4⟩:=h;exact⟨a,b,e1,c,e2,p.trans e3,e4⟩
 |cont=>obtain⟨a,b,e1,c,e2,e3,e4⟩:=h;exact⟨a,b,e1,c,e2,p.trans e3,e4⟩
 |ret u=>exact h
section
variable {X:Cx}{st:Stmt}{sts rest:List Stmt}{t u:GTS}{e:Expr}{te:DTE}{pos:Pos}
theorem DGS.of{t':TS}(h:PS X st t')(k:∀σ H H₀ σD Gn,DOk X.K H₀ H σD σ->t Gn σD->t' (jz X.K H₀ H Gn) σ H):DGS X st t :=
 ⟨λpins s σ H H₀ σD Gn I ok q=>h pins s σ H _ I (k σ H H₀ σD Gn ok q)⟩
def zr7(K:PySem.W.Frag)(t:GTS):TS:=λE σ H=>∃H₀ σD Gn,DOk K H₀ H σD σ/\t Gn σD/\(∀σ' H' σD',DOk K H₀ H' σD' σ'->Pers H H'->Gn.nx σD'->E.nx σ' H')/\(∀v H' σ' σD' d,DOk K H₀ H' σD' σ'->Rep K H' d v->Gn.rt d σD'->E.rt v H') /\
 (∀σ' H' σD',DOk K H₀ H' σD' σ'->Pers H H'->Gn.bk σD'->E.bk σ' H')/\∀σ' H' σD',DOk K H₀ H' σD' σ'->Pers H H'->Gn.ct σD'->E.ct σ' H'
theorem DGSs.ps(h:DGSs X sts t):PSs X sts (zr7 X.K t):=by
 intro pins s σ H E I zz;obtain⟨H₀,σD,Gn,ok,q,k1,k2,k3,k4⟩:=zz;refine thn (h.run pins s σ H H₀ σD Gn I ok q) λf s' z=>?_
 cases f with
 |next=>obtain⟨a,b,e1,c,e2,e3,e4⟩:=z;exact⟨a,b,e1,k1 a b c e2 e3 e4⟩
 |brk=>obtain⟨a,b,e1,c,e2,e3,e4⟩:=z;exact⟨a,b,e1,k3 a b c e2 e3 e4⟩
 |cont=>obtain⟨a,b,e1,c,e2,e3,e4⟩:=z;exact⟨a,b,e1,k4 a b c e2 e3 e4⟩
 |ret u=>obtain⟨v,a,b,e1,e2,σ',σD',d,e3,e4,e5⟩:=z;exact⟨v,a,b,e1,e2,k2 v b σ' σD' d e3 e4 e5⟩
def zjm(t:DTS):GTS:=λGn σ=>t { nx:=Gn.nx,rt:=λ_=>False,bk:=Gn.bk,ct:=Gn.ct } σ
theorem zaw{t:DTS}(h:DS X st t):DGS X st (zjm t):=⟨λpins s σ H H₀ σD Gn I ok q=>thn (h.run pins s σ H H₀ σD _ I ok q) λf s' z=>by
 cases f with
 |next=>obtain⟨a,b,c,e1,e2,e3,e4⟩:=z;exact⟨a,b,e1,c,e2,e3,e4⟩
 |brk=>obtain⟨a,b,c,e1,e2,e3,e4⟩:=z;exact⟨a,b,e1,c,e2,e3,e4⟩
 |cont=>obtain⟨a,b,c,e1,e2,e3,e4⟩:=z;exact⟨a,b,e1,c,e2,e3,e4⟩
 |ret u=>obtain⟨v,a,b,r,e1,e2,e3,e4,e5⟩:=z;exact e5.elim⟩
def zo3(t u:GTS):GTS:=λGn σ=>t { Gn with nx:=u Gn } σ
theorem jp(h1:DGS X st t)(h2:DGSs X rest u):DGSs X (st::rest) (zo3 t u):=⟨λpins s σ H H₀ σD Gn I ok q=>by
 refine wpAny_execs_cons (thn (h1.run pins s σ H H₀ σD { Gn with nx:=u Gn } I ok q) λf s1 z=>?_)
 cases f with
 |next=>
  obtain⟨σ',H',I',σD',ok',p,q'⟩:=z;exact thn (h2.run pins s1 σ' H' H₀ σD' Gn I' ok' q') λ_ _ y=>y.backG p
 |ret v=>exact z
 |brk=>exact z
 |cont=>exact z⟩
theorem k7(h1:DGS X st t):DGSs X [st] t:=⟨λpins s σ H H₀ σD Gn I ok q=>by
 refine wpAny_execs_cons (thn (h1.run pins s σ H H₀ σD Gn I ok q) λf s1 z=>?_)
 cases f with
 |next=>exact wpAny_execs_nil z
 |ret v=>exact z
 |brk=>exact z
 |cont=>exact z⟩
def zo4(te:DTE):GTS:=λGn σ=>te σ λd=>Gn.rt d σ
theorem zgi(he:DE X e te):DGS X (.Return (some e) pos) (zo4 te) :=
 DGS.of (we he.pe) λσ H H₀ σD Gn ok q=>⟨H₀,σD,_,ok,q,λv H1 d s1 r1 q1=>⟨σ,σD,d,ok.after s1,r1,q1⟩⟩
end
abbrev vf:=DSt->(List W->List W->Prop)->Prop
structure DPG(X:Cx)(i:Nat)(es:List Expr)(t:vf):Prop where
 run:∀(pos:Pos) (pins:List (Addr×Obj)) (s:Shared) (σ:St) (H H₀:Hp) (σD:DSt) (Q:List W->List W->Prop),Inv X pins σ H s->DOk X.K H₀ H σD σ->t σD Q ->
  wpAny (model X.prog X.w) X.A (spliced (backTo pos (starEach es X.env))) (λus s'=>∃vp v vq H' wp wq,Inv X pins σ H' s'/\Vals (vp++v::vq) us/\Same H H'/\σ[i]?=some (some v)/\RepWs X.K H' wp vp/\RepWs X.K H' wq vq/\Q wp wq) X.xe s
section
variable {X:Cx}{e:Expr}{es:List Expr}{k k' i j:Nat}{x:Str}{ps:List Str}{sp:xk}{t:vf}{p pos:Pos}
def jq(K:PySem.W.Frag)(i:Nat)(sp:xk)(t:vf):TE:=λσ H Q=>∃H₀ σD o QD,DOk K H₀ H σD σ/\σD[i]?=some (some (.own o))/\t σD (λwp wq=>wp.all W.plain=true/\wq.all W.plain=true/\sp wp o.bare wq QD) /\
 ∀v H' d o',DOk K H₀ H' (clr (σD.set i (some (.own (o.with o'))))) σ->Pers H H'->Rep K H' d v->QD d o'->Q v H'
end
section
variable {P:Program}{w:World}{K:PySem.W.Frag}{mg:Str->Option Value}{base:Heap}
theorem DOk.beginG{H₀ H:Hp}{wp wq:List W}{vp vq:List V}{o:O}{a:Addr}{f:List Addr}(r1:RepWs K H₀ wp vp)(r2:RepWs K H₀ wq vq)(rO:RepO K H o (.ref a) f)(nf:f.Nodup)(fr:∀b∈f,H₀ b=none)(s:Same H₀ H)(N:List Str):
  DOk K H₀ H (xi N (wp ++ .own (.anc a o)::wq)) (xo N (vp ++ .ref a::vq)):=by
 have rep:∀n:Nat,Slots K H₀ H (List.replicate n none) (List.replicate n none) []:=λn=>by
  induction n with
  |zero=>exact .nil
  |succ n ih=>exact .none ih
 have put:∀{ws:List W}{vs:List V},RepWs K H₀ ws vs->∀{τ:DSt}{ρ:St}{g:List Addr},Slots K H₀ H τ ρ g->Slots K H₀ H (ws.map some++τ) (vs.map some++ρ) g:=by
  intro ws vs r τ ρ g t
  induction r with
  |nil=>exact t
  |@cons w' v ws vs r _ ih=>
   cases w' with
   |val d=>exact .val (Rep.same s r) ih
   |vw xs=>exact .vw r ih
   |vd xs=>exact .vd r ih
   |exc xs=>exact .exc r ih
   |scr ns=>obtain⟨a,rfl,r⟩:=r;exact .scr r ih
   |pen=>obtain⟨a,rfl,r⟩:=r;exact .pen (s _ _ r) ih
   |tmp d=>exact r.elim
   |own o=>exact r.elim
 have e1:=r1.length;have e2:=r2.length;refine⟨s,f,?_,nf,fr⟩;unfold xi xo;have z:=put r1 (Slots.own (o:=.anc a o) (v:=.ref a) ⟨rfl,rO⟩ (put r2 (rep (N.length-(wp++W.own (.anc a o)::wq).length))));rw[List.append_nil]at z;have el:(vp++V.ref a::vq).length=(wp++W.own (.anc a o)::wq).length:=by simp[e1,e2]
 rw[el];simpa using z
theorem Fun.dokG{x qual:Str}{st:Stmt}{f:Addr}{fd:FuncData}{N ps:List Str}{k:Nat}{sp:xk}(F:Fun K x qual st f fd)(S:zm N ps (zb st))(len:∀wp o wq Q,sp wp o wq Q->wp.length+1+wq.length=ps.length)
  (hbody:∀(cdv:Value) (A:Around) (outer:List Env) (s:Shared) (H:Hp) (a:Addr) (wp:List W) (o:O) (wq:List W) (Q:D->O->Prop) (E:XK),Room k (A.deeper (envOfC qual (zb st) s.heap.objs.size f cdv))->sp wp o wq Q ->
   ∃t,DGSs (y6 CX0 P w K mg base N qual (zb st) f cdv A outer s H E).nox (zy st) t/\t { nx:=λσ=>∃o',σ[wp.length]?=some (some (.own (.anc a o')))/\Q .none o',rt:=λd σ=>∃o',σ[wp.length]?=some (some (.own (.anc a o')))/\Q d o' } (xi N (wp ++ .own (.anc a o)::wq))):FnOk P w K mg base CX0 (k+1) f fd ps (qi K sp):=by
 refine F.ok S (λvs H Q E h=>?_) λcdv A outer s H vs Q E hr h=>?_
 ·obtain⟨vp,a,vq,ws,o,wq,QD,H₀,f,rfl,r1,r2,_,_,_,_,q,_⟩:=h;rw[<-len _ _ _ _ q,r1.length,r2.length];simp only[List.length_append,List.length_cons];omega
 ·obtain⟨vp,a,vq,wp,o,wq,QD,H₀,f,rfl,r1,r2,rO,nf,fr,sm,q,kk⟩:=h;obtain⟨t,ht,hq⟩:=hbody cdv A outer s H a wp o wq QD E hr q
  have ends:∀{v H' σ' σD' d},DOk K H₀ H' σD' σ'->Rep K H' d v->(∃o',σD'[wp.length]?=some (some (.own (.anc a o')))/\QD d o')->Q v H':=by
   intro v H' σ' σD' d ok rp ⟨o',e,qd⟩;obtain⟨v',f',e1,ro,nf',fr',_⟩:=ok.focus e;obtain⟨rfl,ro⟩:=ro;exact kk v H' d o' f' ok.same rp ro nf' fr' qd
  exact⟨_,ht.ps,H₀,_,_,DOk.beginG r1 r2 rO nf fr sm N,hq,λσ' H' σD' ok' p' q'=>ends ok' .non q',λv H' σ' σD' d ok' rp qr=>ends ok' rp qr,λ_ _ _ _ _ z=>z.elim,λ_ _ _ _ _ z=>z.elim⟩
end
section
variable {X:Cx}{e ie:Expr}{pos:Pos}{te ta:DTE}{t1 t2:DTF}
end
section
variable {X:Cx}{a b:Expr}{rest:List Expr}{pos:Pos}
end
def zct(f:Str)(d:D):List (Str×D)->List (Str×D)
 |[]=>[(f,d)]
 |(g,x)::r=>if g=f then (g,d)::r else (g,x)::zct f d r
section
variable {K:PySem.W.Frag}{H:Hp}
theorem zdw{f:Str}{d:D}:∀{fs:List (Str×D)}{fv:List (Str×V)},fv.map (·.1)=fs.map (·.1)->Reps K H (fs.map (·.2)) (fv.map (·.2))->fs.lookup f=some d->∃v,fv.lookup f=some v/\Rep K H d v
 |[],_,_,_,h=>by simp at h
 |(g,x)::fs,[],e,_,_=>by simp at e
 |(g,x)::fs,(g',y)::fv,e,r,h=>by
  simp only[List.map_cons,List.cons.injEq]at e;obtain⟨rfl,e⟩:=e;simp only[List.map_cons]at r
  cases r with
  |cons r t=>
   cases c:f == g' with
   |true=>
    simp only[List.lookup_cons,c]at h ⊢
    cases h;exact⟨y,rfl,r⟩
   |false=>
    simp only[List.lookup_cons,c]at h ⊢;exact zdw e t h
theorem zdx{f:Str}:∀{fs:List (Str×D)}{fv:List (Str×V)},fv.map (·.1)=fs.map (·.1)->fs.lookup f=none->fv.lookup f=none
 |[],[],_,_=>rfl
 |[],_::_,e,_=>by simp at e
 |(g,x)::fs,[],e,_=>rfl
 |(g,x)::fs,(g',y)::fv,e,h=>by
  simp only[List.map_cons,List.cons.injEq]at e;obtain⟨rfl,e⟩:=e
  cases c:f == g' with
  |true=>
   simp only[List.lookup_cons,c]at h
   cases h
  |false=>
   simp only[List.lookup_cons,c]at h ⊢;exact zdx e h
theorem zgj{f:Str}{d:D}{v:V}(rv:Rep K H d v):∀{fs:List (Str×D)}{fv:List (Str×V)},fv.map (·.1)=fs.map (·.1)->Reps K H (fs.map (·.2)) (fv.map (·.2))->(xz f v fv).map (·.1)=(zct f d fs).map (·.1)/\Reps K H ((zct f d fs).map (·.2)) ((xz f v fv).map (·.2))
 |[],[],_,_=>⟨rfl,.cons rv .nil⟩
 |[],_::_,e,_=>by simp at e
 |(g,x)::fs,[],e,_=>by simp at e
 |(g,x)::fs,(g',y)::fv,e,r=>by
  simp only[List.map_cons,List.cons.injEq]at e;obtain⟨rfl,e⟩:=e;simp only[List.map_cons]at r
  cases r with
  |cons r t=>
   simp only[xz,zct]
   by_cases c:g'=f
   ·rw[if_pos c,if_pos c];exact⟨by simp only[List.map_cons,e],.cons rv t⟩
   ·rw[if_neg c,if_neg c];obtain⟨h1,h2⟩:=zgj rv e t;exact⟨by simp only[List.map_cons,h1],.cons r h2⟩
end
section
variable {X:Cx}{e:Expr}{es:List Expr}{te:DTE}{t:DTP}{pos:Pos}{c f m x:Str}{C g:Addr}{i j k k':Nat}{fd:FuncData}{ps:List Str}{sp:xk}
def zdy(i:Nat)(c f:Str):DTE:=λσ Q=>match σ[i]? with
 |some (some (.own o))=>match o.bare with
  |.ins c' fs=>c'=c/\∃d,fs.lookup f=some d/\Q d
  |_=>False
 |_=>False
theorem zlv(i:Nat){p1:Pos}(hC:PySem.W.nsIn X.K mainGlobals c=some (some (.ref C)))(cl:Cls X.K C)(na:NoAttr X.K C f)(hN:X.N[i]?=some x:=by rfl)(hv:Vis X.env.scope x:=by first|exact Or.inl rfl|exact Or.inr (Or.inl rfl)|exact Or.inr (Or.inr rfl))(hd:(x ==("__debug__" : Str))=false:=by decide)
  (hcd:(x ==("__classdict__" : Str))=false:=by decide) (hb:attributeBase (.Name x p1) f X.env (eval (.Name x p1) X.env)=eval (.Name x p1) X.env:=by rfl):DE X (.Attribute (.Name x p1) f pos) (zdy i c f) :=
 DE.of (znd (yg (i:=i) hN hv hd hcd) hb) λσ H H₀ σD QD ok q=>by
  unfold zdy at q
  split at q
  ·next o eo=>
   split at q
   ·next c' fs eb=>
    obtain⟨rfl,d,hl,q⟩:=q;obtain⟨v,fp,e1,rO,nf,fr,_⟩:=ok.focus eo;have r:=rO.bare;rw[eb]at r;obtain⟨a,dx,C',fv,rfl,rfl,hn,ea,ed,ek,rp⟩:=r;rw[hC]at hn
    cases hn;obtain⟨w,hw,rw'⟩:=zdw ek rp hl;exact⟨.ref a,e1,a,C,dx,fv,w,rfl,ea,cl,na,hw,d,Same.refl _,rw',q⟩
   ·exact q.elim
  ·exact q.elim
def zgk(i:Nat)(c f:Str)(te:DTE):DTS:=λDn σ=>te σ λd=>match σ[i]? with
 |some (some (.own o))=>match o.bare with
  |.ins c' fs=>c'=c/\fs.length<1000/\Dn.nx (clr (σ.set i (some (.own (o.with (.ins c (zct f d fs)))))))
  |_=>False
 |_=>False
theorem zlw(i:Nat){p1 pos':Pos}(hC:PySem.W.nsIn X.K mainGlobals c=some (some (.ref C)))(cl:Cls X.K C)(na:NoAttr X.K C f)(he:DE X e te)(hN:X.N[i]?=some x:=by rfl)(hv:Vis X.env.scope x:=by first|exact Or.inl rfl|exact Or.inr (Or.inl rfl)|exact Or.inr (Or.inr rfl))(hd:(x ==("__debug__" : Str))=false:=by decide)
  (hcd:(x ==("__classdict__" : Str))=false:=by decide) (hs:swapsWith e (some (.Attribute (.Name x p1) f pos')) pos.line X.env=pure false:=by rfl):DS X (.Assign [.Attribute (.Name x p1) f pos'] e pos) (zgk i c f te) :=
 DS.of (zne (yg (i:=i) hN hv hd hcd) he.pe hs) λσ H H₀ σD Dn ok q=>⟨H₀,σD,_,ok,q,λv H1 d s1 r1 q1=>by
  split at q1
  ·next o eo=>
   split at q1
   ·next c' fs eb=>
    obtain⟨rfl,hl,q1⟩:=q1;obtain⟨w,fp,e1,rO,nf,fr,put⟩:=(ok.after s1).focus eo;have r:=rO.bare;rw[eb]at r;obtain⟨a,dx,C',fv,rfl,rfl,hn,ea,ed,ek,rp⟩:=r;have hn2:=hn;rw[hC]at hn2
    cases hn2;have hl2:fv.length<1000:=by
     have:=congrArg List.length ek;rw[List.length_map,List.length_map]at this;omega
    have hne:dx≠a:=λz=>by subst z;simp at nf
    have ps:=xc (o':=.ins C dx (xz f v fv)) ea rfl;obtain⟨h1,h2⟩:=zgj (f:=f) r1 ek rp;obtain⟨ok2,pr⟩:=put (upd H1 a (.ins C dx (xz f v fv))) (o.with (.ins c' (zct f d fs))) [a,dx] (λb u hb hu=>by rw[zd (λz=>hb (by rw[z];simp))];exact hu) nf (λb hb=>.inl hb)
     (rO.with (o':=.ins c' (zct f d fs)) ⟨a,dx,C,xz f v fv,rfl,rfl,hn,ze,by rw[zd hne];exact ed,h1,h2.mono ps⟩)
    exact⟨.ref a,e1,a,C,dx,fv,rfl,ea,cl,na,hl2,_,ok2,s1.pers.trans pr,q1⟩
   ·exact q1.elim
  ·exact q1.elim⟩
def zgl(j:Nat)(c:Str)(sp:xk)(t:DTP):DTS:=λDn σ=>t σ λws=>sp [] (.ins c []) ws λd o'=>d=.none/\Dn.nx (σ.set j (some (.own o')))
theorem zlx{y:Str}{pos' p cpos:Pos}(hN:X.N.Nodup)(hi:X.N[j]?=some y)(hx:Loc X.env.scope y)(M:Mk X.K C g)(F:FnOk X.prog X.w X.K X.mg X.base CX0 k g fd ps (qi X.K sp))(hr:Room k' X.A)(hg:Gl X c)(hm:X.mg c=some (.ref C))(hC:PySem.W.nsIn X.K mainGlobals c=some (some (.ref C)))
  (hb:Binds X.K fd ps []) (ha:DPs X (e::es) t) (hk:k+1<=k':=by decide) (hdb:(c ==("__debug__" : Str))=false:=by decide)
  (he:starEach (e::es) X.env=(false,eval e X.env)::starEach es X.env:=by rfl) (hpl:(backTo cpos (starEach es X.env)).any (·.1)=false:=by rfl)
  (hs:swapsWith (.Call (.Name c p) (e::es) [] cpos) (some (.Name y pos')) pos.line X.env=pure false:=by rfl) (hf:X.fn y=true\/X.env.scope.names.lookup y=some .local:=by first|exact .inl rfl|exact .inr rfl|assumption) :
  DS X (.Assign [.Name y pos'] (.Call (.Name c p) (e::es) [] cpos) pos) (zgl j c sp t) :=
 DS.of (je hN hi hx (zkv M F (hr.mono hk) hg hm hb .nil zf2 ha.pa hdb he hpl) hs hf) λσ H H₀ σD Dn ok q=>⟨H₀,σD,_,ok,q,λvs H1 ws s1 r1 q1=>λz dx hz hdx hne=>by
  have sm:Same H1 (upd (upd H1 dx (.own z)) z (.ins C dx [])):=(zt hdx _).trans (zt (by rw[zd hne.symm];exact hz) _);refine⟨[],z,vs,[],.ins c [],ws,_,H1,[z,dx],by simp,.nil,r1,⟨z,dx,C,[],rfl,rfl,hC,ze,by rw[zd hne];exact ze,rfl,.nil⟩,by simp[hne.symm],?_,sm,q1,λv H' d o' f' s2 rp ro nf' hf' qd=>?_⟩
  ·intro b hb;simp only[List.mem_cons,List.not_mem_nil,or_false]at hb;rcases hb with rfl|rfl
   ·exact hz
   ·exact hdx
  ·obtain⟨rfl,qd⟩:=qd
   cases rp;exact⟨rfl,_,DOk.setF (ok.after s1) s2 hf' nf' ro j,(s1.trans s2).pers,qd⟩⟩
def k8(i:Nat)(c m:Str)(t:DTP):vf:=λσ Q=>match σ[i]? with
 |some (some (.own o))=>match o.bare with
  |.ins c' fs=>c'=c/\fs.lookup m=none/\t σ λwq=>Q [] wq
  |_=>False
 |_=>False
theorem zly{K:PySem.W.Frag}{H H1 H₀:Hp}{σD:DSt}{σ:St}{o:O}{a:Addr}{vs:List V}{wq:List W}{QD:D->O->Prop}{Q:VK}(ok:DOk K H₀ H σD σ)(s1:Same H H1)(eo:σD[i]?=some (some (.own o)))(e1:σ[i]?=some (some (.ref a)))(r2:RepWs K H1 wq vs)(p2:wq.all W.plain=true)(q2:sp [] o.bare wq QD)
  (kq:∀v H' d o',DOk K H₀ H' (clr (σD.set i (some (.own (o.with o'))))) σ->Pers H H'->Rep K H' d v->QD d o'->Q v H') (E:XK):qi K sp (.ref a::(vs ++ [])) H1 Q E:=by
 obtain⟨v',f,e2,rO,nf,fr,put⟩:=(ok.after s1).focus eo;rw[e1]at e2
 cases e2;refine⟨[],a,vs,[],o.bare,wq,QD,zjl f H1,f,by simp,.nil,r2.mono (zhk rO) (List.all_eq_true.mp p2),rO.bare,nf,λb hb=>zb9 hb,zhj,q2,λv2 H2 d o' f' s2 rp ro nf' hf' qd=>?_⟩;obtain⟨ok2,pr⟩:=put H2 (o.with o') f' (λb u hb hu=>s2 b u (by rw[zad hb];exact hu)) nf' (λb hb=>by
  by_cases z:b∈f
  ·exact .inl z
  ·have:=hf' b hb;rw[zad z]at this;exact .inr this) (rO.with ro)
 exact kq v2 H2 d o' ok2 (s1.pers.trans pr) rp qd
theorem zhl{pl:Sem Bool}{p1 apos:Pos}(hC:PySem.W.nsIn X.K mainGlobals c=some (some (.ref C)))(cl:Cls X.K C)(hm:zkt X.K C m g)(F:FnOk X.prog X.w X.K X.mg X.base CX0 k g fd ps (qi X.K sp))(hr:Room k' X.A)(hb:Binds X.K fd ps [])(hk:k<=k':=by decide)
  (hN:X.N[i]?=some x:=by rfl) (hv:Vis X.env.scope x:=by first|exact Or.inl rfl|exact Or.inr (Or.inl rfl)|exact Or.inr (Or.inr rfl)) (hd:(x ==("__debug__" : Str))=false:=by decide) (hcd:(x ==("__classdict__" : Str))=false:=by decide)
  (ht:eval (.Call (.Attribute (.Name x p1) m apos) [] [] pos) X.env=(do
   let ov <-eval (.Name x p1) X.env
   standAt apos.atName
   let (f,first) <-holding [ov] (getMethod ov m pl)
   callWith pos f first (backTo pos (starEach [] X.env)) (backToKw pos (keywordEach [] X.env))):=by rfl) :
  PE X (.Call (.Attribute (.Name x p1) m apos) [] [] pos) (jq X.K i sp (k8 i c m zdj)):=by
 intro pins s σ H Q I ⟨H₀,σD,o,QD,ok,eo,q,kq⟩;unfold k8 at q;rw[eo]at q;simp only[]at q
 split at q
 ·next c' fs eb=>
  obtain⟨rfl,hl,q⟩:=q;obtain⟨v,fp,e1,rO,nf,fr,_⟩:=ok.focus eo;have r:=rO.bare;rw[eb]at r;obtain⟨a,dx,C',fv,rfl,rfl,hn,ea,ed,ek,rp⟩:=r;rw[hC]at hn
  cases hn;exact zh5 (C:=C) (yg (i:=i) hN hv hd hcd) cl hm F (hr.mono hk) hb .nil zf2 ht pins s σ H Q I ⟨.ref a,e1,a,dx,fv,rfl,ea,zdx ek hl,zly (vs:=[]) ok (Same.refl _) eo e1 .nil q.2.1 q.2.2 kq E0⟩
 ·exact q.elim
end
section
variable {X:Cx}{e:Expr}{pos:Pos}{i j:Nat}{sp:xk}{t:vf}{a b:List Stmt}{ta tb:DTS}
def qv(i:Nat)(sp:xk)(t:vf)(N:D->DSt->Prop):DSt->Prop:=λσ=>match σ[i]? with
 |some (some (.own o))=>t σ λwp wq=>wp.all W.plain=true/\wq.all W.plain=true/\sp wp o.bare wq λd o'=>N d (clr (σ.set i (some (.own (o.with o')))))
 |_=>False
theorem qw{K:PySem.W.Frag}{H H₀:Hp}{σD:DSt}{σ:St}{N:D->DSt->Prop}{Q:VK}(ok:DOk K H₀ H σD σ)(q:qv i sp t N σD)(kq:∀v H' d σD',DOk K H₀ H' σD' σ->Pers H H'->Rep K H' d v->N d σD'->Q v H'):jq K i sp t σ H Q:=by
 unfold qv at q
 split at q
 ·next o eo=>exact⟨H₀,σD,o,_,ok,eo,q,λv H' d o' ok' pr rp qd=>kq v H' d _ ok' pr rp qd⟩
 ·exact q.elim
def zfe(i:Nat)(sp:xk)(t:vf):DTS:=λDn σ=>qv i sp t (λ_ σ'=>Dn.nx σ') σ
theorem zjn(P:PE X e (jq X.K i sp t))(hs:swapsWith e none pos.line X.env=pure false:=by rfl):DS X (.Expr e pos) (zfe i sp t) :=
 DS.of (zcf P hs) λσ H H₀ σD Dn ok q=>qw ok q λv H' d σD' ok' pr rp qd=>⟨σD',ok',pr,qd⟩
def zo5(i:Nat)(sp:xk)(t:vf)(ta tb:DTS):DTS:=λDn σ=>qv i sp t (λd σ'=>match d with
 |.bool b=>if b=true then ta Dn σ' else tb Dn σ'
 |_=>False) σ
theorem zhm{p2:Pos}(P:PE X e (jq X.K i sp t))(ha:DSs X a ta)(hb:DSs X b tb)(he:∀whole,isTrue e X.env whole=(do let v <-whole;standAt e.pos;holding [v] (truthy v)):=by intro _;rfl):DS X (.If (.UnaryOp .Not e p2) a b pos) (zo5 i sp t tb ta):=⟨λpins s σ H H₀ σD Dn I ok q=>by
 refine wpAny_If (isTrue_not (thn (zdb P he pins s σ H (λc H'=>∃σD',DOk X.K H₀ H' σD' σ/\Pers H H'/\if c=true then tb Dn σD' else ta Dn σD') I (qw ok q λv H' d σD' ok' pr rp qd=>?_)) λc s1 ⟨H1,I1,σD',ok',pr,q1⟩=>?_))
 ·cases d with
  |bool c=>cases rp;exact⟨c,rfl,σD',ok',pr,qd⟩
  |_=>exact qd.elim
 ·cases c with
  |true=>exact thn (hb.run pins s1 σ H1 H₀ σD' Dn I1 ok' (by simpa using q1)) λ_ _ z=>z.back pr
  |false=>exact thn (ha.run pins s1 σ H1 H₀ σD' Dn I1 ok' (by simpa using q1)) λ_ _ z=>z.back pr⟩
end
def Its(x:Str):It:=⟨λi _=>i<x.cps.size,λi H v H'=>H'=H/\∃c,x.cps[i]?=some c/\v=.str ⟨#[c]⟩,λi _=>x.cps.size<=i⟩
theorem zhn{P:Program}{w:World}{K:PySem.W.Frag}{tg:Expr}(it:Addr)(x:Str)(t:Tok):zef P w K tg (Its x) [it] it (λi h=>h.IsStrIter it "str_ascii_iterator" x t i) where
 mem:=by simp
 obj:=λi h st b hb=>by
  have e:b=it:=by simpa using hb
  subst e;obtain⟨o,e,c,d⟩:=st;exact⟨o,e,λv z=>by rw[d]at z;cases z⟩
 keep:=λi h h' st k=>by
  obtain⟨o,e,c,d⟩:=st;exact⟨o,k it (by simp) o e,c,d⟩
 item:=by
  intro X hP hw hK hc i pins s σ H E I hf st hg;subst hP hw hK;have hlt:i<x.cps.size:=hg;have hx:x.cps[i]?=some x.cps[i]:=by simp[hlt]
  obtain⟨f0,f1,f2,f3,f4,f5⟩:=hf it (by simp);refine wpAny_pyNext_ascii_item st hx λh' st' sb=>?_;have I1:Inv X pins σ H { s with heap:=h',toks:=s.toks+1 }:=I.turned (t':=s.toks+1) (λb o hb e=>(sb.2 b hb).trans e) f0 f1 f3 f4 f5;obtain⟨o,e,c,d⟩:=id st';exact⟨_,rfl,zft (s:={ s with heap:=h',toks:=s.toks+1 }) e c d (by decide) ⟨.str ⟨#[x.cps[i]]⟩,H,I1,⟨_,rfl⟩,⟨rfl,_,hx,rfl⟩,st',λb hb=>(hf b hb).1⟩⟩
 done:=by
  intro X hP hw hK hc i pins s σ H E I hf st hg;subst hP hw hK;obtain⟨f0,f1,f2,f3,f4,f5⟩:=hf it (by simp);have hle:x.cps.size<=i:=hg;exact wpAny_pyNext_ascii_end (I.ok.hd hc) st (by simp[hle]) λh' eb=>⟨rfl,I.turned (t':=s.toks) (λb o hb e=>eb b o hb e) f0 f1 f3 f4 f5⟩
 self:=λ_ _ _ _ _ st h=>wpAny_pyIter_striter_ascii st h
def yx(x:Str):List D:=x.cps.toList.map λc=>.str ⟨#[c]⟩
theorem zo6{K:PySem.W.Frag}{Kp:Hp->Hp->Prop}{H1:Hp}(x:Str):ItOk K Kp (Its x) H1 (yx x) where
 go:=λH i d k e=>by
  unfold yx at e;rw[List.getElem?_map,Array.getElem?_toList]at e;obtain⟨c,hc,rfl⟩:=Option.map_eq_some_iff.mp e;have hi:i<x.cps.size:=by
   by_cases z:i<x.cps.size
   ·exact z
   ·simp[z]at hc
  refine⟨hi,λv H' y=>?_⟩;obtain⟨rfl,c2,h2,rfl⟩:=y;rw[hc]at h2
  cases h2;exact⟨Same.refl _,.str⟩
 stop:=λH k=>by
  show x.cps.size<=(yx x).length;simp[yx]
section
variable {X:Cx}{tg e:Expr}{te:DTE}
theorem zo7{l:Expr}{tl:TE}(hl:PE X l tl):PI X tg l (λσ H R=>tl σ H λx H1=>∃y,x=.str y/\y.cps.all (· < 128)=true/\R (Its y) H1):=by
 intro pins s σ H R I h;refine thn (hl pins s σ H _ I h) λv s1 ⟨x,H1,I1,r1,q1⟩=>?_;obtain⟨y,rfl,ha,q⟩:=q1;obtain⟨t,rfl⟩:=r1;refine wpAny_pyIter_ascii ha ?_;refine⟨s1.heap.objs.size,[s1.heap.objs.size],_,_,H1,rfl,I1.kept (t':=s1.toks) λb o e=>Heap.get?_push_of_some _ e,zhn _ y t,⟨_,Heap.get?_push_size _ rfl,rfl,rfl⟩,λb hb=>?_,q⟩;have e:b=s1.heap.objs.size:=by simpa using hb
 subst e;exact I1.fpOk (Nat.le_refl _) (I1.hok.fresh (Nat.le_refl _))
def zjo(te:DTE):DTF:=λσ Q=>te σ λd=>match d with
 |.str y=>y.cps.all (· < 128)=true/\Q (yx y)
 |_=>False
theorem zjp(h:DE X e te):DI X tg e (zjo te):=⟨λpins s σ H R I ⟨H₀,σD,QD,ok,q,k⟩=>zo7 h.pe pins s σ H R I ⟨H₀,σD,_,ok,q,λv H1 d s1 r1 q1=>by
 cases d with
 |str y=>
  cases r1;exact⟨y,rfl,q1.1,k _ _ _ s1 (zo6 y) q1.2⟩
 |_=>exact q1.elim⟩⟩
end
section
variable {X:Cx}{e:Expr}{te:DTE}{pos p2:Pos}{lo hi:Option Expr}{tl th:DTO}
theorem zo8:SlR X (λx lo hi H Q=>∃y,x=.str y/\y.length<=sizeLine/\Q (.str (Txt.slice y lo hi)) H):=by
 intro pins s σ H x v vl vu lo hi sl Q I rx hs pl pu h;obtain⟨y,rfl,hz,q⟩:=h;obtain⟨t,rfl⟩:=rx;refine⟨"str",_,PySem.F.slot_str_getitem.lookup,typeIs_str _ _ _,?_⟩;have fin:∀(t':Tok) (k:Nat),EP X pins σ Q (.str (Txt.slice y lo hi) t') { s with toks:=k }:=λt' k=>⟨.str _,H,I.kept (t':=k) (λb o e=>e),⟨_,rfl⟩,q⟩
 cases pl with
 |none=>
  cases pu with
  |none=>exact wpAny_getItem_str_slice (l:=none) (u:=none) (st:=none) hs rfl (post_val_or_str ⟨Nat.le_trans (Txt.slice_le y _ _) hz,fin⟩)
  |int j uj=>exact wpAny_getItem_str_slice (l:=none) (u:=some (j,uj)) (st:=none) hs rfl (post_val_or_str ⟨Nat.le_trans (Txt.slice_le y _ _) hz,fin⟩)
 |int i ui=>
  cases pu with
  |none=>exact wpAny_getItem_str_slice (l:=some (i,ui)) (u:=none) (st:=none) hs rfl (post_val_or_str ⟨Nat.le_trans (Txt.slice_le y _ _) hz,fin⟩)
  |int j uj=>exact wpAny_getItem_str_slice (l:=some (i,ui)) (u:=some (j,uj)) (st:=none) hs rfl (post_val_or_str ⟨Nat.le_trans (Txt.slice_le y _ _) hz,fin⟩)
def zo9(te:DTE)(tl th:DTO):DTE:=λσ Q=>te σ λd=>tl σ λl=>th σ λu=>match d with
 |.str y=>y.length<=sizeLine/\Q (.str (Txt.slice y l u))
 |_=>False
theorem qb(he:DE X e te)(hl:DO X lo tl)(hu:DO X hi th):DE X (.Subscript e (.Slice lo hi none p2) pos) (zo9 te tl th) :=
 DE.of (zdd zo8 he.pe hl.po hu.po) λσ H H₀ σD QD ok q=>⟨H₀,σD,_,ok,q,λv H1 d s1 r1 q1=>⟨H₀,σD,_,ok.after s1,q1,λl H2 s2 q2=>⟨H₀,σD,_,(ok.after s1).after s2,q2,λu H3 s3 q3=>by
  cases d with
  |str y=>
   cases r1;exact⟨y,rfl,q3.1,_,s1.trans (s2.trans s3),.str,q3.2⟩
  |_=>exact q3.elim⟩⟩⟩
end
section
variable {X:Cx}
theorem zca:MtR X "str.count" (λx vs H Q=>∃y z,x=.str y/\vs = [.str z]/\Q (.int (Txt.count y z)) H):=by
 intro pins s σ H x vs v us Q I rx rv h;obtain⟨y,z,rfl,rfl,q⟩:=h;obtain⟨t,rfl⟩:=rx;obtain⟨u,rfl,ru⟩:=rv.one;obtain⟨t',rfl⟩:=ru;exact SC.count ⟨.int _,H,I.tok _,⟨_,rfl⟩,q⟩
theorem zcb:∀{texts:List Str}{its:List Value},Vals (texts.map V.str) its->∃l:List (Str×Tok),its=strValues l/\l.map (·.1)=texts
 |[],_,r=>by cases r;exact⟨[],rfl,rfl⟩
 |x::texts,_,r=>by
  cases r with
  |cons h t=>
   obtain⟨u,rfl⟩:=h;obtain⟨l,rfl,rfl⟩:=zcb t;exact⟨(x,u)::l,rfl,rfl⟩
theorem zjq:MtR X "str.join" (λx vs H Q=>∃y a texts,x=.str y/\vs = [.ref a]/\SqL X.K H a (texts.map V.str)/\JoinOk y texts=true/\Q (.str (Txt.join y texts)) H):=by
 intro pins s σ H x vs v us Q I rx rv h;obtain⟨y,a,texts,rfl,rfl,hR,hok,q⟩:=h;obtain⟨t,rfl⟩:=rx;obtain⟨u,rfl,ru⟩:=rv.one
 cases ru;obtain⟨its,r,pl,hz⟩:=I.list hR;obtain⟨l,rfl,hl⟩:=zcb r;exact SC.join pl.isList hl hok λt' k=>⟨.str _,H,I.kept (t':=k) (λb o e=>e),⟨_,rfl⟩,q⟩
theorem zcc{K:PySem.W.Frag}{H:Hp}:∀{texts:List Str}{vs:List V},Reps K H (texts.map PyData.str) vs->vs=texts.map V.str
 |[],_,r=>by cases r;rfl
 |x::texts,_,r=>by
  cases r with
  |cons r t=>
   cases r;rw[zcc t];rfl
variable {o e:Expr}{to te:DTE}{apos cpos:Pos}{name:Str}{id:String}{gV:Str->Str->V}{gD:Str->Str->D}
def zpa(g:Str->Str->D)(to te:DTE):DTE:=λσ Q=>to σ λd=>match d with
 |.str y=>te σ λk=>match k with
  |.str z=>Q (g y z)
  |_=>False
 |_=>False
theorem zjr(slot:Slot "str" name id)(ty:typeOf (.builtin id)=pure (.type "method_descriptor"))(hm:MtR X id (λx vs H Q=>∃y z,x=.str y/\vs = [.str z]/\Q (gV y z) H))(rp:∀H y z,Rep X.K H (gD y z) (gV y z))(ho:DE X o to)(ha:DE X e te)
  (hbase:attributeBase o name X.env (eval o X.env)=eval o X.env:=by rfl)
  (hfew:((backTo cpos (starEach [e] X.env)).all (λx=>!x.1) && (backToKw cpos (keywordEach [] X.env)).all (λx=>x.1.isSome) && decide (([e]:List Expr).length+([]:List Keyword).length+(if ([]:List Keyword).isEmpty then 0 else 1)<30))=true:=by rfl)
  (hline:(apos.endLine == cpos.line)=true:=by rfl) (hs:starEach [e] X.env=(false,eval e X.env)::starEach [] X.env:=by rfl) (hplain:(backTo cpos (starEach [] X.env)).any (·.1)=false:=by rfl) :
  DE X (.Call (.Attribute o name apos) [e] [] cpos) (zpa gD to te) :=
 DE.of (zby F.plainAttrs_str slot ty hm ho.pe (zn ha.pe ye hs) hbase hfew hline hs hplain) λσ H H₀ σD QD ok q=>⟨H₀,σD,_,ok,q,λv H1 d s1 r1 q1=>by
  cases d with
  |str y=>
   cases r1;refine⟨rfl,H₀,σD,_,ok.after s1,q1,λv2 H2 d2 s2 r2 q2=>?_⟩
   cases d2 with
   |str z=>
    cases r2;exact⟨y,z,rfl,rfl,_,s1.trans s2,rp _ _ _,q2⟩
   |_=>exact q2.elim
  |_=>exact q1.elim⟩
def zff(to te:DTE):DTE:=λσ Q=>to σ λd=>match d with
 |.str y=>te σ λk=>match k with
  |.list xs=>∃texts:List Str,xs=texts.map PyData.str/\JoinOk y texts=true/\Q (.str (Txt.join y texts))
  |_=>False
 |_=>False
theorem zjs(ho:DE X o to)(ha:DV X e te)(hbase:attributeBase o "join" X.env (eval o X.env)=eval o X.env:=by rfl)
  (hfew:((backTo cpos (starEach [e] X.env)).all (λx=>!x.1) && (backToKw cpos (keywordEach [] X.env)).all (λx=>x.1.isSome) && decide (([e]:List Expr).length+([]:List Keyword).length+(if ([]:List Keyword).isEmpty then 0 else 1)<30))=true:=by rfl)
  (hline:(apos.endLine == cpos.line)=true:=by rfl) (hs:starEach [e] X.env=(false,eval e X.env)::starEach [] X.env:=by rfl) (hplain:(backTo cpos (starEach [] X.env)).any (·.1)=false:=by rfl) :
  DE X (.Call (.Attribute o "join" apos) [e] [] cpos) (zff to te) :=
 DE.of (zby F.plainAttrs_str F.slot_str_join F.type_str_join zjq ho.pe (zn ha.pe ye hs) hbase hfew hline hs hplain) λσ H H₀ σD QD ok q=>⟨H₀,σD,_,ok,q,λv H1 d s1 r1 q1=>by
  cases d with
  |str y=>
   cases r1;refine⟨rfl,H₀,σD,_,ok.after s1,q1,λv2 H2 d2 s2 r2 q2=>?_⟩
   cases d2 with
   |list xs=>
    obtain⟨texts,rfl,hok,q3⟩:=q2;obtain⟨a,vs,rfl,hR,rp⟩:=r2.list;have ev:=zcc rp;subst ev;exact⟨y,a,texts,rfl,rfl,.inl hR,hok,_,s1.trans s2,.str,q3⟩
   |_=>exact q2.elim
  |_=>exact q1.elim⟩
end
open PySem.Builtin PySem.Builtin.Str
section
variable {X:Cx}
variable {o e:Expr}{to te:DTE}{apos cpos:Pos}
end
end L2
namespace L2
open PySem PySem.Spec PyProof.Rows
open PySem.Builtin PySem.Builtin.Str
section
variable {X:Cx}
end
end L2
namespace L2
open PySem PySem.Spec PyProof.Rows
section
variable {X:Cx}
end
section
variable {X:Cx}{e:Expr}{te:DTE}{pos tpos px py ps:Pos}{k i j:Nat}{x y:Str}
end
end L2
namespace L2
open PySem PySem.Spec PyProof.Rows PySem.NumText
structure zsl(x:Str):Prop where
 dig:∀c∈x.cps.toList,48<=c/\c<=57
 ne:x.cps.toList ≠ []
 le:x.length<=10
 hd:x=Str.ofString "0" \/ x.cps.toList.head?≠some 48
end L2
namespace L2
open PySem PySem.Spec PyProof.Rows
section
variable {X:Cx}{e:Expr}{es:List Expr}
end
section
variable {X:Cx}{k v e f:Expr}{tk tv te tf:DTE}{apos cpos dpos:Pos}
end
section
variable {X:Cx}{k e f:Expr}{tk te tf:DTE}{p1 pos pos':Pos}
end
def MxAt(K:PySem.W.Frag)(H:Hp)(bs:List Addr)(u:V):Mx->Prop
 |.v d=>Rep K H d u
 |.l xs=>∃b vs,u=.ref b/\b∈bs/\H b=some (.lst vs)/\Reps K H xs vs
section
variable {K:PySem.W.Frag}{H H':Hp}
theorem MxAt.more{bs cs:List Addr}{u:V}{m:Mx}(h:MxAt K H bs u m)(k:∀b∈bs,b∈cs):MxAt K H cs u m:=by
 cases m with
 |v d=>exact h
 |l xs=>obtain⟨b,vs,e1,e2,e3⟩:=h;exact⟨b,vs,e1,k b e2,e3⟩
theorem MxR.at:∀{ms:List Mx}{us:List V}{bs:List Addr}{k:Nat}{m:Mx},MxR K H ms us bs->ms[k]?=some m->∃u,us[k]?=some u/\MxAt K H bs u m
 |[],_,_,k,m,_,e=>by simp at e
 |.v d::ms,u::us,bs,0,m,h,e=>by cases e;exact⟨u,rfl,h.1⟩
 |.v d::ms,u::us,bs,k+1,m,h,e=>by
  obtain⟨w,e1,r⟩:=MxR.at (k:=k) h.2 (by simpa using e);exact⟨w,by simpa using e1,r⟩
 |.l xs::ms,u::us,b::bs,0,m,h,e=>by
  cases e;obtain⟨e0,⟨vs,e1,r⟩,_⟩:=h;exact⟨u,rfl,b,vs,e0,List.mem_cons_self,e1,r⟩
 |.l xs::ms,u::us,b::bs,k+1,m,h,e=>by
  obtain⟨w,e1,r⟩:=MxR.at (k:=k) h.2.2 (by simpa using e);exact⟨w,by simpa using e1,r.more λc hc=>List.mem_cons_of_mem _ hc⟩
theorem MxR.setL{b:Addr}{ws:List V}{ys:List D}(p:Pers H (upd H b (.lst ws)))(r:Reps K (upd H b (.lst ws)) ys ws):∀{ms:List Mx}{us:List V}{bs:List Addr}{k:Nat}{xs:List D},MxR K H ms us bs->bs.Nodup->ms[k]?=some (.l xs)->us[k]?=some (.ref b)->MxR K (upd H b (.lst ws)) (ms.set k (.l ys)) us bs
 |[],_,_,k,xs,_,_,e,_=>by simp at e
 |.v _::ms,u::us,bs,0,xs,h,nd,e,_=>by cases e
 |.v _::ms,u::us,bs,k+1,xs,h,nd,e,e2=>⟨h.1.mono p,MxR.setL p r h.2 nd (by simpa using e) (by simpa using e2)⟩
 |.l zs::ms,u::us,c::bs,0,xs,h,nd,e,e2=>by
  obtain⟨e0,_,t⟩:=h;have e3:u=.ref b:=by simpa using e2
  have:c=b:=V.ref.inj (e0.symm.trans e3);subst this;exact⟨e0,⟨ws,ze,r⟩,t.keep p λa ha w' hw=>by rw[zd (λz=>(List.nodup_cons.mp nd).1 (by rw[<-z];exact ha))];exact hw⟩
 |.l zs::ms,u::us,c::bs,k+1,xs,h,nd,e,e2=>by
  obtain⟨e0,⟨vs,e1,r1⟩,t⟩:=h;obtain⟨w',e3,b',vs',e4,e5,_⟩:=MxR.at (k:=k) t (by simpa using e);have e6:us[k]?=some (.ref b):=by simpa using e2
  rw[e6]at e3
  cases e3
  cases e4;refine⟨e0,⟨vs,?_,r1.mono p⟩,MxR.setL p r t (List.nodup_cons.mp nd).2 (by simpa using e) e6⟩;rw[zd (λz=>(List.nodup_cons.mp nd).1 (by rw[z];exact e5))];exact e1
theorem MxR.app{ms':List Mx}{us':List V}{bs':List Addr}(g:MxR K H ms' us' bs'):∀{ms:List Mx}{us:List V}{bs:List Addr},MxR K H ms us bs->MxR K H (ms++ms') (us++us') (bs++bs')
 |[],[],[],_=>g
 |.v _::_,_::_,_,h=>⟨h.1,MxR.app g h.2⟩
 |.l _::_,_::_,_::_,h=>⟨h.1,h.2.1,MxR.app g h.2.2⟩
theorem DOk.mixAt{H₀:Hp}{σD:DSt}{σ:St}(h:DOk K H₀ H σD σ){i:Nat}{o:O}{ms:List Mx}(e:σD[i]?=some (some (.own o)))(eb:o.bare=.mix ms):
  ∃a us bs,σ[i]?=some (some (.ref a))/\H a=some (.lst us)/\MxR K H ms us bs/\(a::bs).Nodup /\
   ∀H' ms' us' bs',(∀c u,c∉a::bs->H c=some u->H' c=some u)->(a::bs').Nodup->(∀c∈bs',c∈a::bs\/H c=none)->H' a=some (.lst us')->MxR K H' ms' us' bs' ->
    DOk K H₀ H' (clr (σD.set i (some (.own (o.with (.mix ms')))))) σ/\Pers H H':=by
 obtain⟨v,f,e1,rO,nf,_,put⟩:=h.focus e;have r:=rO.bare;rw[eb]at r;obtain⟨a,us,bs,rfl,rfl,ea,m⟩:=r;exact⟨a,us,bs,e1,ea,m,nf,λH' ms' us' bs' k nd fr ea' m'=>put H' _ (a::bs') k nd (λc hc=>by
  rcases List.mem_cons.mp hc with rfl|hc
  ·exact .inl List.mem_cons_self
  ·exact fr c hc) (rO.with (o':=.mix ms') ⟨a,us',bs',rfl,rfl,ea',m'⟩)⟩
end
theorem zcu{α:Type}{xs:List α}{n:Int}{k:Nat}{v:α}(h:ixN xs.length n=some k)(e:xs[k]?=some v):atI xs n=some v:=by
 unfold atI;rw[h];exact e
def zlz(i:Nat)(ti:DTE):DTE:=λσ Q=>match σ[i]? with
 |some (some (.own o))=>match o.bare with
  |.mix ms=>ti σ λn=>match n with
   |.int n=>∃k m,ixN ms.length n=some k/\ms[k]?=some m/\match m with
    |.v d=>Q d
    |.l xs=>Q (.list xs)
   |_=>False
  |_=>False
 |_=>False
section
variable {X:Cx}{e ie:Expr}{te ti:DTE}{tf:DTF}{pos:Pos}
theorem zpb(i:Nat){x:Str}{p1:Pos}(hi:DE X ie ti)(hix:kj ie)(hN:X.N[i]?=some x:=by rfl)(hv:Vis X.env.scope x:=by first|exact Or.inl rfl|exact Or.inr (Or.inl rfl)|exact Or.inr (Or.inr rfl))(hd:(x ==("__debug__" : Str))=false:=by decide)
  (hcd:(x ==("__classdict__" : Str))=false:=by decide):DV X (.Subscript (.Name x p1) ie pos) (zlz i ti) :=
 DV.of (wx ix_list (yg (i:=i) hN hv hd hcd) hi.pe hix) λσ H H₀ σD QD ok q=>by
  unfold zlz at q
  split at q
  ·next o eo=>
   split at q
   ·next ms eb=>
    obtain⟨a,us,bs,e1,ea,m,_⟩:=ok.mixAt eo eb;refine⟨.ref a,e1,H₀,σD,_,ok,q,λv H1 d s1 r1 q1=>?_⟩
    cases d with
    |int n=>
     cases r1;obtain⟨k,mm,h1,h2,q2⟩:=q1;obtain⟨u,hu,r⟩:=m.at h2;rw[m.len]at h1
     cases mm with
     |v d=>exact⟨a,us,n,u,rfl,rfl,SqL.of (s1 _ _ ea),zcu h1 hu,d,s1,.inl (Rep.same s1 r),q2⟩
     |l xs=>
      obtain⟨b,vs,rfl,_,eb2,r2⟩:=r;exact⟨a,us,n,_,rfl,rfl,SqL.of (s1 _ _ ea),zcu h1 hu,.list xs,s1,.inr ⟨xs,rfl,b,vs,rfl,.inl (s1 _ _ eb2),r2.same s1⟩,q2⟩
    |_=>exact q1.elim
   ·exact q.elim
  ·exact q.elim
def zgm(i:Nat)(ti te:DTE):DTS:=λDn σ=>match σ[i]? with
 |some (some (.own o))=>match o.bare with
  |.mix ms=>ti σ λn=>match n with
   |.int n=>∃k xs,ixN ms.length n=some k/\ms[k]?=some (.l xs)/\te σ λd=>xs.length<sizeLine/\Dn.nx (clr (σ.set i (some (.own (o.with (.mix (ms.set k (.l (xs ++ [d])))))))))
   |_=>False
  |_=>False
 |_=>False
theorem zl0(i:Nat){x:Str}{p1 p3 apos cpos:Pos}(hi:DE X ie ti)(he:DE X e te)(hix:kj ie)(hN:X.N[i]?=some x:=by rfl)(hv:Vis X.env.scope x:=by first|exact Or.inl rfl|exact Or.inr (Or.inl rfl)|exact Or.inr (Or.inr rfl))(hd:(x ==("__debug__" : Str))=false:=by decide)
  (hcd:(x ==("__classdict__" : Str))=false:=by decide)
  (hbase:attributeBase (.Subscript (.Name x p1) ie p3) "append" X.env (eval (.Subscript (.Name x p1) ie p3) X.env)=eval (.Subscript (.Name x p1) ie p3) X.env:=by rfl)
  (hfew:((backTo cpos (starEach (e :: []) X.env)).all (λx=>!x.1) && (backToKw cpos (keywordEach [] X.env)).all (λx=>x.1.isSome)
   && decide ((e :: []).length+([]:List Keyword).length+(if ([]:List Keyword).isEmpty then 0 else 1)<30))=true:=by rfl)
  (hline:(apos.endLine == cpos.line)=true:=by rfl) (hst:starEach (e :: []) X.env=(false,eval e X.env)::starEach [] X.env:=by rfl) (hplain:(backTo cpos (starEach [] X.env)).any (·.1)=false:=by rfl)
  (hs:swapsWith (.Call (.Attribute (.Subscript (.Name x p1) ie p3) "append" apos) [e] [] cpos) none pos.line X.env=pure false:=by rfl):DS X (.Expr (.Call (.Attribute (.Subscript (.Name x p1) ie p3) "append" apos) [e] [] cpos) pos) (zgm i ti te) :=
 DS.of (zcf (zby PySem.F.plainAttrs_list PySem.F.slot_list_append PySem.F.type_list_append jg (wx ix_list (yg (i:=i) hN hv hd hcd) hi.pe hix) (zn he.pe ye hst) hbase hfew hline hst hplain) hs) λσ H H₀ σD Dn ok q=>by
  unfold zgm at q
  split at q
  ·next o eo=>
   split at q
   ·next ms eb=>
    obtain⟨a,us,bs,e1,ea,m,_⟩:=ok.mixAt eo eb;refine⟨.ref a,e1,H₀,σD,_,ok,q,λv0 H0 d0 s0 r0 q0=>?_⟩
    cases d0 with
    |int n=>
     cases r0;obtain⟨k,xs,h1,h2,q⟩:=q0;obtain⟨u,hu,b,vs,rfl,hb,ebb,r⟩:=m.at h2;rw[m.len]at h1;refine⟨a,us,n,_,rfl,rfl,SqL.of (s0 _ _ ea),zcu h1 hu,.inl ⟨rfl,vs,SqL.of (s0 _ _ ebb)⟩,H₀,σD,_,ok.after s0,q,λv H1 d s1 r1 q1=>?_⟩;obtain⟨a',us',bs',e1',ea',m',nd,put⟩:=((ok.after s0).after s1).mixAt eo eb;rw[e1]at e1'
     cases e1';have ea1:=s1 _ _ (s0 _ _ ea);rw[ea1]at ea'
     cases ea';have ebs:=s1 _ _ (s0 _ _ ebb);obtain⟨u',hu',b',vs',e3,hb',ebb',r'⟩:=m'.at h2;rw[hu]at hu'
     cases hu'
     cases e3;rw[ebs]at ebb'
     cases ebb';have ps:Pers H1 (upd H1 b (.lst (vs ++ [v]))):=xc ebs rfl;have nab:a≠b:=λz=>(List.nodup_cons.mp nd).1 (by rw[z];exact hb');obtain⟨ok2,pr⟩:=put (upd H1 b (.lst (vs ++ [v]))) (ms.set k (.l (xs ++ [d]))) us bs' (λc w' hc hw=>by rw[zd (λz=>hc (by rw[z];exact List.mem_cons_of_mem _ hb'))];exact hw) nd (λc hc=>.inl (List.mem_cons_of_mem _ hc)) (by rw[zd nab];exact ea1)
      (m'.setL ps ((r'.append (.cons r1 .nil)).mono ps) (List.nodup_cons.mp nd).2 h2 hu)
     exact⟨b,vs,v,rfl,rfl,ebs,by rw[<-r'.length];exact q1.1,_,ok2,(s0.trans s1).pers.trans pr,q1.2⟩
    |_=>exact q0.elim
   ·exact q.elim
  ·exact q.elim
end
section
variable {X:Cx}{tg iter elt:Expr}{ifs:List Expr}{scope:Scope}{cl:List (Str×Addr)}{N' capt:List Str}{k:Nat}{js is:List Nat}{ti:DTF}{g:DTG}{tt:DTT}{tf:DTF}{pos:Pos}
end
end L2
namespace SV
open PySem
structure Bel(xs:Array Nat)(j b:Nat):Prop where
 le:b<=xs.size
 lo:∀i,i<b->xs.getD i 0<j
 hi:∀i,b<=i->i<xs.size->j<=xs.getD i 0
def Not(xs:Array Nat)(j:Nat):Prop:=xs[SetTable.below xs j]?≠some j
end SV
namespace SV
open PySem
end SV
namespace PySem
section
variable {prog:Program}{w:World}{K:Type}[DecidableEq K](knd:KeyKind prog w K)
variable {knd}
variable {A:Around}{E:Value->Shared->Prop}{s:Shared}
end
section
open PyProof.Rows
variable {prog:Program}{w:World}{A:Around}{R:Result->Shared->Prop}{I:Addr}{fp wr:List Addr}{G:Array GenState->Array GenState->Prop}{n:Nat}{P:Nat->Value->Prop}{St:Nat->Shared->Prop}
end
section
variable {prog:Program}{w:World}{A:Around}{E:Value->Shared->Prop}{s:Shared}
end
end PySem
namespace PySem
namespace F
end F
section
variable {prog:Program}{w:World}{A:Around}{E:Value->Shared->Prop}{s:Shared}{a:Addr}{o:Obj}{es:Array (Int×Value)}{ep:Nat}{t:SetTable}
end
end PySem
namespace PySem
section
variable {prog:Program}{w:World}{A:Around}{E:Value->Shared->Prop}{s:Shared}{a:Addr}{o:Obj}{es:Array (Int×Value)}{ep:Nat}{t:SetTable}
def IsSI(h:Heap)(I:Addr)(fs:Array Value):Prop:=∃u,h.get? I=some u/\u.cls=.type "set_iterator" /\ u.data=.fields fs
end
end PySem
namespace SV
open PySem
def sl(t:SetTable)(i:Nat):Nat:=if i=0 then 0 else t.place.getD (i-1) 0+1
end SV
namespace PySem
section
variable {prog:Program}{w:World}{A:Around}{E:Value->Shared->Prop}{s:Shared}{a:Addr}{o:Obj}{es:Array (Int×Value)}{ep:Nat}{t:SetTable}
theorem IsSI.at{h h':Heap}{I:Addr}{fs:Array Value}(x:IsSI h I fs)(e:∀o,h.get? I=some o->h'.get? I=some o):IsSI h' I fs:=let ⟨u,hu,r⟩:=x;⟨u,e _ hu,r⟩
end
end PySem
namespace SV
open PySem
section
variable {prog:Program}{w:World}{A:Around}{E:Value->Shared->Prop}{s:Shared}{a:Addr}{o:Obj}{es:Array (Int×Value)}{ep:Nat}{t:SetTable}
end
end SV
namespace SQ
open PySem PyProof.Rows
theorem IntsAre.mk:∀{us:List Value},(∀v∈us,∃n t,v=.int n t)->∃ns,IntsAre us ns
 |[],_=>⟨[],.nil⟩
 |u::us,h=>by
  obtain⟨n,t,rfl⟩:=h u List.mem_cons_self;obtain⟨ns,e⟩:=IntsAre.mk λv hv=>h v (List.mem_cons_of_mem _ hv);exact⟨n::ns,.cons n t e⟩
section
variable {prog:Program}{w:World}{A:Around}{E:Value->Shared->Prop}{s:Shared}{a:Addr}{o:Obj}{es:Array (Int×Value)}{ep:Nat}{t:SetTable}
end
end SQ
namespace L2
open PySem PySem.Spec PyProof.Rows SQ
section
variable {X:Cx}{a:Expr}{p pos p2 pos2:Pos}
end
end L2
namespace SQ
open PySem PyProof.Rows
section
variable {prog:Program}{w:World}{A:Around}{E:Value->Shared->Prop}{s:Shared}{a:Addr}{o:Obj}{es:Array (Int×Value)}{ep:Nat}{t:SetTable}
end
end SQ
namespace L2
open PySem PySem.Spec PyProof.Rows SQ
section
variable {X:Cx}{a:Expr}{p pos p2 pos2:Pos}
end
end L2
namespace L2
open PySem PySem.Spec PyProof.Rows
section
variable {X:Cx}{pins:List (Addr×Obj)}{σ:St}{H:Hp}{s:Shared}{P c:Addr}{q:Str}
end
section
variable {X:Cx}{pins:List (Addr×Obj)}{σ:St}{H:Hp}{a it S f:Addr}{xs:List V}{kf:Nat->Int}{kwd:List (Str×Value)}{R:Value->Shared->Prop}
structure zsm(X:Cx)(pins:List (Addr×Obj))(σ:St)(H:Hp)(a it S:Addr)(xs:List V)(kf:Nat->Int)(j i:Nat)(H1:Hp)(s:Shared):Prop where
 I:Inv X pins σ H1 s
 sm:Same H H1
 st:s.heap.IsTupleIter it a j
 f1:FpOk X pins H1 it
 f2:FpOk X pins H1 S
 ne:it≠S
 best:∃vb tb c x,s.heap.get? S=some (seqObj "list" #[vb,.int (kf i) tb] c)/\xs[i]?=some x/\RelV x vb
 lt:i<j
 mx:∀j',j' < j->kf j'<=kf i/\(j' < i->kf j' < kf i)
theorem FpOk.at{b:Addr}{H1 H2:Hp}(h:FpOk X pins H1 b)(n:H2 b=none):FpOk X pins H2 b:=⟨n,h.2⟩
end
section
variable {X:Cx}{pins:List (Addr×Obj)}{σ:St}{H:Hp}{a f:Addr}{xs:List V}{kf:Nat->Int}{R:Value->Shared->Prop}{s:Shared}
end
section
variable {X:Cx}{a body:Expr}{ta:DTF}{tb:DTE}{p pos kp kp2 lp cp:Pos}{k:Nat}{P c:Addr}{q y:Str}{params:Arguments}{scope:Scope}{N:List Str}
end
section
variable {X:Cx}{e:Expr}{es:List Expr}{k k':Nat}{x q:Str}{T:Addr}{ps:List Str}{sp:DSp}{t:DTP}{p pos:Pos}
end
section
variable {P:Program}{w:World}{K:PySem.W.Frag}{mg:Str->Option Value}{base:Heap}
end
section
variable {T a:Addr}{K:PySem.W.Frag}{h:Heap}
end
end L2
namespace PySem
open Sem (wp)
section
variable {prog:Program}{w:World}{A:Around}{E:Value->Shared->Prop}{h:Heap}{g:Array GenState}{d:Drawn}{t:Nat}{os:OsState}
variable {nm q:Str}{C N:Addr}{bs bm bmB bmN:List Value}{hdct:Bool}{sn:List Str}{sub:List Value}{ab:Bool}{col:Option Bool}{dd:Option Addr}{k0 k1 k2 k3 k5:Option Value}{B Bn newId nid initId inN:String}
end
end PySem
namespace PySem
open Sem (wp)
open Builtin Builtin.ObjectAttr
section
variable {prog:Program}{w:World}{A:Around}{E:Value->Shared->Prop}{h:Heap}{g:Array GenState}{d:Drawn}{t:Nat}{os:OsState}
variable {nm q:Str}{C N x:Addr}{bs bm bmB:List Value}{sn:List Str}{sub:List Value}{ab:Bool}{col:Option Bool}{dd:Option Addr}{k0 k1 k2 k3 k5:Option Value}{B newId sa owner:String}
 {mA:Str->Option Value}{name:Str}{v:Value}
end
end PySem
namespace PySem
open Sem (wp)
section
variable {M:Model}{A:Around}{E:Value->Shared->Prop}{s:Shared}{env:Env}
variable {nm q:Str}{C N:Addr}{bs bm bmB bmN:List Value}{hdct:Bool}{sn:List Str}{sub:List Value}{ab:Bool}{col:Option Bool}{dd:Option Addr}{k0 k1 k2 k3 k5:Option Value}{B Bn newId nid initId inN:String}
end
section
variable {prog:Program}{w:World}{A:Around}{E:Value->Shared->Prop}{s:Shared}{env:Env}
variable {nm q:Str}{C N:Addr}{bs bm bmB bmN:List Value}{hdct:Bool}{sn:List Str}{sub:List Value}{ab:Bool}{col:Option Bool}{dd:Option Addr}{k0 k1 k2 k3 k5:Option Value}{B Bn newId nid initId inN:String}
end
end PySem
namespace L2
open PySem PySem.Spec PyProof.Rows
def zpc(K:PySem.W.Frag)(C:Addr)(bmB:List Value)(newId:String)(fI:Addr):Bool:=match K.lookup C with
 |some ⟨.type "type",_,.cls cd,sl⟩=>(match cd.mro,sl.toList with
  |.ref C'::bm,[_,_,_,_,some (.builtin n),_]=>C' == C && n == newId && !cd.hasDel && cd.hasDict && PySem.W.tailIn K bmB bm && PySem.W.nsOkIn K cd.ns && PySem.W.nsIn K cd.ns "__init__" == some (some (.ref fI))
  |_,_=>false)
 |_=>false
section
variable {X:Cx}{pins:List (Addr×Obj)}{σ:St}{H:Hp}{s:Shared}
end
def zjt(C t:Addr)(od:Option Addr):Obj:={ cls:=.ref C,dict:=od,data:=.fields #[.ref t,.none,.none,.none,.bool false,.none] }
def zpd(C t:Addr)(od:Option Addr)(a:Addr):HO:=.ext λh=>h.get? a=some (zjt C t od)
structure XI(X:Cx)(σ:St)(H:Hp)(s:Shared)(e C t:Addr)(od:Option Addr)(mA:Str->Option Value)(c:Nat):Prop where
 I:Inv X [] σ H s
 tr:H e=some (zpd C t od e)
 no:od=none->∀n,mA n=none
 ns:∀d,od=some d->d≠e/\s.heap.Ns1 d mA/\FpOk X [] H d
 few:∃ks,Within mA ks/\ks.length<=c
structure zsn(K:PySem.W.Frag)(C fI:Addr)(fs:List Str):Prop where
 cls:zpc K C [.type "ValueError",.type "Exception",.type "BaseException",.type "object"] "ValueError.__new__" fI=true
 sa:PySem.W.findIn K (.ref C) "__setattr__" = some (some (.builtin "object.__setattr__"))
 at_:∀f∈fs,PySem.W.findIn K (.ref C) f=some none
section
variable {X:Cx}{σ:St}{H:Hp}{s:Shared}{e C t fI:Addr}{od:Option Addr}{mA:Str->Option Value}{fs:List Str}{c:Nat}
theorem XI.ob(x:XI X σ H s e C t od mA c):s.heap.get? e=some (zjt C t od):=(x.I.hok e _ x.tr).1
end
def zr8(fs:List Str)(ns:List Int):List (Str×V):=(fs.zip ns).map λp=>(p.1,V.int p.2)
def zl1(P:Program)(w:World)(outer:List Env)(H:Hp)(s s':Shared)(e C t:Addr)(fv:List (Str×V)):Prop :=
 ∃d H',s'.os=s.os/\AllBare s'.gens/\Un (frs outer) [] H H' s.heap s'.heap/\HOk P w H' s'.heap/\H' e=some (zpd C t (some d) e)/\H' d=some (.xd fv)/\But e H H'/\d≠e/\H d=none
structure zsa(P:Program)(w:World)(K:PySem.W.Frag)(mg:Str->Option Value)(base:Heap)(k:Nat)(C fI:Addr)(fs:List Str):Prop where
 run:∀(A:Around) (outer:List Env) (s:Shared) (H:Hp) (e t:Addr) (ns:List Int) (us:List Value),Room k A->Env0 P w K mg base A outer s H->H e=some (zpd C t none e)->Vals (ns.map V.int) us->ns.length=fs.length ->
  codeAny (model P w) A (.call (.ref fI) ⟨.ref e::us,[]⟩) (λr s'=>r=.ok (.ret .none)/\zl1 P w outer H s s' e C t (zr8 fs ns)) s
section
variable {P:Program}{w:World}{K:PySem.W.Frag}{mg:Str->Option Value}{base:Heap}{k:Nat}{C fI:Addr}{fd:FuncData}{qual:Str}{st:Stmt}
end
section
variable {P:Program}{w:World}{K:PySem.W.Frag}{mg:Str->Option Value}{base:Heap}{N:List Str}{qual:Str}{scope:Scope}{f:Addr}{cd:Value}{A:Around}{outer:List Env}{s:Shared}{H:Hp}{E:XK}
end
end L2
namespace L2
open PySem PySem.Spec PyProof.Rows PySem.W
section
variable {prog:Program}{w:World}{A:Around}{E:Value->Shared->Prop}{s:Shared}{K:Frag}{x C:Addr}{ox:Obj}{od:Option Obj}{name:Str}{v:Value}
end
section
variable {X:Cx}{pos p:Pos}
end
end L2
namespace L2
open PySem PySem.Spec PyProof.Rows
section
variable {X:Cx}{e:Expr}{es rest:List Expr}{k k':Nat}{x:Str}{ps:List Str}{sp:DSp}{t:DTP}{p cpos:Pos}
end
section
variable {X:Cx}
variable {o e:Expr}{to te:DTE}{apos cpos:Pos}
end
section
variable {X:Cx}{pos p:Pos}
end
section
variable {X:Cx}{e:Expr}{pos p:Pos}
def insL{α:Type}(k:Int)(y:α)(xs:List α):List α:=xs.take k.toNat++y::xs.drop k.toNat
end
section
variable {X:Cx}{a b c d:Expr}{ta tb tc td:DTE}{pos:Pos}
theorem zl2{i j:Int}{k l}{p1 p2:Pos}:DE X (.Dict [some (.Constant (.int i) k p1)] [.Constant (.int j) l p2] pos) (dC (.dict [(.int i,.int j)])):=⟨λpins s σ H H₀ σD Q I ok q=>
 thn (zlp (zje (yq (X:=X)) (yq (X:=X)) zlo) rfl rfl (by simp) (by simp) pins s σ H (λv H'=>∃p,v=.ref p/\H p=none/\H'=upd (upd H p (.dK [])) p (.dK [(Sum.inl i,.int j)])) I (λp hp=>by
  refine⟨ze,[(Sum.inl i,.int j)],rfl,by simp,p,rfl,hp,rfl⟩)) λu s' ⟨v,H',I',r,p,e1,hp,e2⟩=>by
 subst e1 e2;obtain⟨o,J⟩:=I'.frzK ze;exact⟨.ref p,_,.dict _,J,r,λb z hb=>by rw[zd (zj hb hp),zd (zj hb hp),zd (zj hb hp)];exact hb,.dic ze (.cons .int .nil),q⟩⟩
end
section
variable {X:Cx}
def zsb(X:Cx)(t:DTS):TS:=λE σ H=>∃σD Dn,DOk X.K X.H₀ H σD σ/\t Dn σD/\(∀σ' H' σD',DOk X.K X.H₀ H' σD' σ'->Pers H H'->Dn.nx σD'->E.nx σ' H')/\(∀v H' r,Same X.H₀ H'->ko X.K X.H₀ H' r v->Dn.rt r->E.rt v H') /\
 (∀σ' H' σD',DOk X.K X.H₀ H' σD' σ'->Pers H H'->Dn.bk σD'->E.bk σ' H')/\∀σ' H' σD',DOk X.K X.H₀ H' σD' σ'->Pers H H'->Dn.ct σD'->E.ct σ' H'
theorem DSXs.ps{sts:List Stmt}{t:DTS}(h:DSXs X sts t):PSs X sts (zsb X t):=λpins s σ H E I ⟨σD,Dn,ok,q,k1,k2,k3,k4⟩=>thn (h.run pins s σ H σD Dn I ok q) λf s' z=>by
 cases f with
 |next=>obtain⟨a,b,c,e1,e2,e3,e4⟩:=z;exact⟨a,b,e1,k1 a b c e2 e3 e4⟩
 |brk=>obtain⟨a,b,c,e1,e2,e3,e4⟩:=z;exact⟨a,b,e1,k3 a b c e2 e3 e4⟩
 |cont=>obtain⟨a,b,c,e1,e2,e3,e4⟩:=z;exact⟨a,b,e1,k4 a b c e2 e3 e4⟩
 |ret u=>obtain⟨v,a,b,r,e1,e2,e3,e4,e5⟩:=z;exact⟨v,a,b,e1,e2,k2 v b r e3 e4 e5⟩
theorem DSX.of{st:Stmt}{t:DTS}{t':TS}(h:PS X st t')(k:∀σ H σD Dn,DOk X.K X.H₀ H σD σ->t Dn σD->t' (ziy X.K X.H₀ H Dn) σ H):DSX X st t :=
 ⟨λpins s σ H σD Dn I ok q=>thn (h pins s σ H _ I (k σ H σD Dn ok q)) λ_ _ z=>z.dsp⟩
end
section
variable {X:Cx}{pins:List (Addr×Obj)}{σ:St}{H:Hp}{s:Shared}
end
end L2
namespace PySem
section
variable {prog:Program}{w:World}{A:Around}{E:Value->Shared->Prop}{s:Shared}
end
end PySem
namespace L2
open PySem PySem.Spec PyProof.Rows SQ
section
variable {X:Cx}{a:Expr}{p pos p2 pos2:Pos}
end
end L2
namespace L2
open PySem PySem.Spec PyProof.Rows
section
variable {X:Cx}{pos p:Pos}
end
section
variable {prog:Program}{w:World}{A:Around}{R:Result->Shared->Prop}{s:Shared}{elt t1 i1 t2 i2:Expr}{f1 f2:List Expr}{scope:Scope}{pos:Pos}{it acc:Value}{env:Env}
end
section
variable {X:Cx}
end
section
variable {K:PySem.W.Frag}{H₀ H H':Hp}
end
section
variable {X:Cx}{elt tg iter t2 i2:Expr}{ifs ifs2:List Expr}{scope:Scope}{pos:Pos}{cl:List (Str×Addr)}{N' capt:List Str}{k:Nat}{js is is2:List Nat}{ti ti2:DTF}{g g2:DTG}{tt tt2:DTT}{te:DTE}
end
section
variable {X:Cx}
variable {elt tg iter t2 i2:Expr}{ifs ifs2:List Expr}{scope:Scope}{pos:Pos}{cl:List (Str×Addr)}{N' capt:List Str}{k:Nat}{js is is2:List Nat}{ti ti2:DTF}{g g2:DTG}{tt tt2:DTT}{te:DTE}
end
section
variable {X:Cx}{e:Expr}{es:List Expr}{pos:Pos}{i j:Nat}{sp:xk}{t:vf}
end
section
variable {K:PySem.W.Frag}{H₀ H Hb H':Hp}{σD:DSt}{σ:St}
end
section
variable {X:Cx}{elt tg iter:Expr}{ifs:List Expr}{scope:Scope}{pos:Pos}{cl:List (Str×Addr)}{N' capt:List Str}{k:Nat}{js is:List Nat}{ti:DTF}{g:DTG}{tt:DTT}{sp:xk}{t:vf}
end
section
variable {X:Cx}
variable {o e:Expr}{to te:DTE}{apos cpos:Pos}
end
end L2
namespace SQ
open PySem PyProof.Rows
set_option autoImplicit false
def zsc(h:Heap)(v:Value)(is:List Int):Prop:=∃a its n t u js,v=.ref a/\IsTup h a its/\its.toList = [.int n t,u]/\RefIs h u js/\is=n::js
open Classical in
noncomputable def zsd (h:Heap) (v:Value):Option (List Int):=if x:∃is,zsc h v is then some x.choose else none
@[reducible] noncomputable def prK (h:Heap):KeyKind:={ zry h with keyOf:=λv=>zsd h v }
section
variable {prog:Program}{w:World}{A:Around}{E:Value->Shared->Prop}{s:Shared}
theorem items_int{vs:List Value}{ns:List Int}(h:IntsAre vs ns):ItemsAre (intKind prog w) ns vs:=by
 induction h with
 |nil=>exact .nil
 |cons n t h ih=>exact .cons (by simp[intKind,Value.isInt]) ih
theorem All2.perm{α β:Type}{R:α->β->Prop}{as' as:List α}(p:as'.Perm as):∀{bs:List β},All2 R as bs->∃bs',All2 R as' bs'/\bs'.Perm bs:=by
 induction p with
 |nil=>intro bs h;exact⟨bs,h,.refl _⟩
 |cons x p ih=>
  intro bs h
  cases h with
  |cons h t=>
   obtain⟨bs',h',p'⟩:=ih t;exact⟨_,.cons h h',p'.cons _⟩
 |swap x y l=>
  intro bs h
  cases h with
  |cons h t=>
   cases t with
   |cons h2 t=>exact⟨_,.cons h2 (.cons h t),.swap _ _ _⟩
 |trans p1 p2 ih1 ih2=>
  intro bs h;obtain⟨b1,h1,q1⟩:=ih2 h;obtain⟨b2,h2,q2⟩:=ih1 h1;exact⟨b2,h2,q2.trans q1⟩
end
end SQ
namespace L2
open PySem PySem.Spec PyProof.Rows SQ
def kL(l:Int×List Int):List Int:=l.1::l.2
section
variable {X:Cx}{pins:List (Addr×Obj)}{σ:St}{H:Hp}{s:Shared}
end
end L2
namespace L2
open PySem PySem.Spec PyProof.Rows SQ
section
variable {X:Cx}{pins:List (Addr×Obj)}{σ:St}{H:Hp}{s:Shared}
end
section
variable {X:Cx}{a body:Expr}{ta:DTF}{tb:DTE}{p pos kp lp:Pos}{k:Nat}{P c:Addr}{q y:Str}{params:Arguments}{scope:Scope}{N:List Str}
end
end L2
namespace PySem.AutoSeq1
open PySem.MeetsSeq PySem.MeetsSeq2 PySem.MeetsSeq3
end PySem.AutoSeq1
namespace L2
open PySem PySem.Spec PyProof.Rows
section
variable {X:Cx}{e:Expr}{te:DTE}{pos:Pos}
end
section
variable {X:Cx}
end
section
variable {K:PySem.W.Frag}{H:Hp}
end
section
variable {X:Cx}{tk te:DTE}{pos:Pos}
end
section
variable {X:Cx}{tk te:DTE}{pos:Pos}
end
theorem KV.at{κ:Type}:∀{vs:List (κ×V)}{ws:List (κ×Value)}{i:Nat}{k:κ}{v:V},KV vs ws->vs[i]?=some (k,v)->∃u,ws[i]?=some (k,u)
 |[],_,_,_,_,_,e=>by simp at e
 |p::vs,ws,i,k,v,h,e=>by
  cases h with
  |cons r t=>
   cases i with
   |zero=>
    simp at e;subst e
    rename_i b l
    obtain⟨k',u⟩:=b;have z:k=k':=r.1;subst z;exact⟨u,rfl⟩
   |succ i=>
    obtain⟨u,hu⟩:=KV.at t (show vs[i]?=some (k,v) by simpa using e);exact⟨u,by simpa using hu⟩
section
variable {X:Cx}{pins:List (Addr×Obj)}{σ:St}{H:Hp}{s:Shared}{a:Addr}{o:Obj}
end
section
variable {X:Cx}{tg:Expr}
theorem RepK.at{K:PySem.W.Frag}{H:Hp}:∀{kvs:List (D×D)}{vs:List (Key×V)}{i:Nat}{d:D},RepK K H kvs vs->(kvs.map (·.1))[i]?=some d->∃k v,vs[i]?=some (k,v)/\d=kD k
 |_,_,i,d,.nil,e=>by simp at e
 |_,_,i,d,.cons (k:=k) (v:=v) r t,e=>by
  cases i with
  |zero=>simp at e;exact⟨k,v,rfl,e.symm⟩
  |succ i=>
   obtain⟨k',v',h1,h2⟩:=RepK.at t (i:=i) (by simpa using e);exact⟨k',v',by simpa using h1,h2⟩
theorem RepK.len{K:PySem.W.Frag}{H:Hp}:∀{kvs:List (D×D)}{vs:List (Key×V)},RepK K H kvs vs->kvs.length=vs.length
 |_,_,.nil=>rfl
 |_,_,.cons r t=>by rw[List.length_cons,List.length_cons,RepK.len t]
end
section
variable {K:PySem.W.Frag}{H₀ H:Hp}{σD:DSt}{σ:St}
def dP(ks:List (Key×D)):List (D×D):=ks.map λp=>(kD p.1,p.2)
theorem zpe{a b:Key}(h:kD a=kD b):a=b:=by
 cases a <;> cases b <;> simp[kD]at h <;> rw[h]
theorem RepK.kv:∀{ks:List (Key×D)}{vs:List (Key×V)},RepK K H (dP ks) vs->RepKV K H ks vs
 |[],vs,h=>by cases h;exact RepKV.nil'
 |(k,d)::ks,vs,h=>by
  generalize hg:dP ((k,d)::ks)=l at h
  cases h with
  |nil=>cases hg
  |cons r t=>
   simp only[dP,List.map_cons,List.cons.injEq,Prod.mk.injEq]at hg;obtain⟨⟨h1,rfl⟩,rfl⟩:=hg
   cases zpe h1;exact RepKV.cons r (RepK.kv t)
end
section
variable {X:Cx}
end
section
variable {X:Cx}{o:Expr}{td:TE}{p pos apos cpos:Pos}
end
section
variable {prog:Program}{w:World}{A:Around}{E:Value->Shared->Prop}
variable {κ:Type}[DecidableEq κ]{knd:KeyKind prog w κ}
end
section
variable {X:Cx}{e:Expr}{p pos:Pos}
end
def zju:DOp
 |.str x,.int n,Q=>MulOk x n/\Q (.str (Txt.mul x n))
 |_,_,_=>False
section
variable {X:Cx}
theorem zjv:OpD X (binaryOp .Mult) zju:=⟨λpins s σ H x y v u a b Q I rx ry ra rb q=>by
 cases a with
 |str i=>cases b with
  |int j=>
   rcases ra with ra |⟨_,z,_⟩
   ·rcases rb with rb |⟨_,z,_⟩
    ·cases ra
     cases rb;obtain⟨t,rfl⟩:=rx;obtain⟨t',rfl⟩:=ry;exact SB.mul q.1 λt2 k=>⟨.str _,H,.str _,I.kept (t':=k) (λb o e=>e),⟨_,rfl⟩,Same.refl _,.str,q.2⟩
    ·cases z
   ·cases z
  |_=>exact q.elim
 |_=>exact q.elim⟩
end
def txL(l:List Nat):Str:=⟨l.toArray⟩
theorem wn(l:List Nat):(txL l).length=l.length:=by simp[txL,Str.length]
theorem zl3{x:Str}{n:Int}(h0:0<=n)(h1:n<=16777216)(hx:x.length=1):MulOk x n:=by
 refine⟨?_,λh2 _=>?_,λh2 _=>?_⟩
 ·rw[decide_eq_false (by omega),decide_eq_false (by omega)];rfl
 ·rw[hx]
  have:(1:Int)<=(2 ^ 63-1) / n:=by
   rw[Int.le_ediv_iff_mul_le (by omega)];omega
  simpa using this
 ·rw[hx];unfold Builtin.Str.tooLong;simp only[sizeLine,gt_iff_lt,decide_eq_false_iff_not];omega
theorem zdz(c:Nat):∀(n:Nat) (acc:Array Nat),((List.replicate n #[c]).foldl (· ++ ·) acc).toList=acc.toList++List.replicate n c
 |0,acc=>by simp
 |n+1,acc=>by
  rw[List.replicate_succ,List.foldl_cons,zdz c n,List.replicate_succ];simp
theorem zpf{c:Nat}{n:Int}(h0:0<=n):Txt.mul (txL [c]) n=txL (List.replicate n.toNat c):=by
 unfold Txt.mul
 by_cases h1:n<1
 ·rw[if_pos h1,show n.toNat=0 by omega];rfl
 ·rw[if_neg h1]
  by_cases h2:n=1
  ·subst h2;rfl
  ·rw[if_neg (by simp[h2,txL,Str.length])];unfold txL;congr 1;have:=zdz c n.toNat #[];rw[<-Array.toList_inj];simpa using this
theorem zfg(l m:List Nat):txL l++txL m=txL (l++m):=by
 show(⟨_⟩:Str)=_;unfold txL;simp
theorem zjw(c:Nat)(l:List Nat):Txt.count (txL l) (txL [c])=(l.count c:Int):=by
 rw[show txL [c]=⟨#[c]⟩ from rfl,count_cnt];show cnt c l=_
 induction l with
 |nil=>rfl
 |cons n r ih=>
  rw[cnt_cons,ih,List.count_cons]
  by_cases h:n=c
  ·simp[h];omega
  ·simp[h]
def zpg(x:Str):It:=⟨λi _=>i<x.cps.size,λi H v H'=>∃p c,H p=none/\x.cps[i]?=some c/\v=.ref p/\H'=upd H p (.tup [.int i,.str ⟨#[c]⟩]),λi _=>x.cps.size<=i⟩
theorem zfh{P:Program}{w:World}{K:PySem.W.Frag}{elts:List Expr}{x1}{tpos:Pos}{e it:Addr}(x:Str)(t:Tok)(hne:e≠it):
  zef P w K (.Tuple elts x1 tpos) (zpg x) [e,it] e (λi h=>(∃old,IsEnum h e it i old)/\h.IsStrIter it "str_ascii_iterator" x t i) where
 mem:=by simp
 obj:=λi h st c hb=>by
  obtain⟨⟨old,he⟩,o,h1,h2,h3⟩:=st;simp only[List.mem_cons,List.not_mem_nil,or_false]at hb;rcases hb with rfl|rfl
  ·exact⟨_,he,λv q=>by cases (show Data.fields _=Data.cell v from q)⟩
  ·exact⟨o,h1,λv q=>by rw[h3]at q;cases q⟩
 keep:=λi h h' st k=>by
  obtain⟨⟨old,he⟩,o,h1,h2⟩:=st;exact⟨⟨old,k _ (by simp) _ he⟩,o,k it (by simp) o h1,h2⟩
 item:=by
  intro X hP hw hK hc i pins s σ H E I hf st hg;subst hP hw hK;obtain⟨⟨old,he⟩,h1⟩:=st;have hlt:i<x.cps.size:=hg;refine wpAny_pyNext_enum_itemD (Draws.strAscii (A:=X.A.in1) (I.ok.hd hc) it x t) he h1 hlt hne (by simp[hne]) λu' h' tk hu' he' h1' hp' hsz hk=>⟨_,rfl,?_⟩
  obtain⟨c,tu,hcx,rfl⟩:=hu';refine wpAny_letOwnedTupleGo_enum he' λh'' he'' hsb=>?_;have ne:s.heap.objs.size≠e:=λq=>by have:=Heap.lt_size he;rw[<-q]at this;exact Nat.lt_irrefl _ this
  have hp2:=(hsb.2 _ ne).trans hp';have nb:∀c o,s.heap.get? c=some o->c≠s.heap.objs.size:=λc o e=>Nat.ne_of_lt (Heap.lt_size e);have I1:Inv X pins σ (upd H s.heap.objs.size (.tup [.int i,.str ⟨#[c]⟩])) { s with heap:=h'',toks:=tk+1 }:=by
   refine I.turnedNew (ch:=[e,it]) hf (Nat.le_refl _) (λb u hb e=>?_) ⟨by simp[sizeLine_eq],[.int i tk,.str ⟨#[c]⟩ tu],.cons ⟨_,rfl⟩ (.cons ⟨_,rfl⟩ .nil),?_⟩
   ·simp only[List.mem_cons,List.not_mem_nil,or_false,not_or]at hb;exact(hsb.2 b hb.1).trans (hk b u hb.1 hb.2 e)
   ·exact⟨_,hp2,rfl,⟨_,rfl⟩,rfl⟩
  refine⟨.ref s.heap.objs.size,_,I1,rfl,⟨_,c,I.hok.fresh (Nat.le_refl _),hcx,rfl,rfl⟩,⟨⟨_,he''⟩,?_⟩,λb hb=>?_⟩
  ·obtain⟨o,h2,h3⟩:=h1';exact⟨o,(hsb.2 _ (Ne.symm hne)).trans h2,h3⟩
  ·rw[zd]
   ·exact(hf b hb).1
   ·intro q;subst q;simp only[List.mem_cons,List.not_mem_nil,or_false]at hb;obtain⟨o1,e1,_⟩:=h1;rcases hb with q|q
    ·exact nb _ _ he q.symm
    ·exact nb _ _ e1 q.symm
 done:=by
  intro X hP hw hK hc i pins s σ H E I hf st hg;subst hP hw hK;obtain⟨⟨old,he⟩,h1⟩:=st;have hle:x.cps.size<=i:=hg;have hT:s.TypeIs (.ref e) "enumerate" :=⟨_,he,rfl⟩
  unfold pyNext;refine wpAny_bind (wpAny_attempt (wpAny_callSpecial?_slot (name:=Str.ofString "__next__") hT F.slot_enumerate_next
   (wpAny_call_entry F.slot_enumerate_next hT F.entry_enumerate_next ?_ (F.args_enumerate_next_1 _))))
  show wpAny _ _ (field (.ref e) 2 >>= _) _ _ _;refine wpAny_bind (wpAny_field he rfl (x:=.ref it) rfl ?_);refine wpAny_bind (wpAny_nextOf_ascii_end (A:=X.A.in1) (I.ok.hd hc) h1 (by simp[hle]) λh' x he' hx'=>?_);obtain⟨o,ho,hcc⟩:=hx';refine wpAny_bind (wpAny_isInstance (T := "StopIteration") (b:=true) ⟨o,ho,hcc⟩ isSubtype_stop ?_);refine wpAny_pure ⟨rfl,?_⟩;refine I.turnedL (t':=s.toks) (ch:=[e,it]) hf λb u hb e=>?_;simp only[List.mem_cons,List.not_mem_nil,or_false,not_or]at hb;exact he' b u hb.2 e
 self:=λ_ _ _ _ _ st h=>by
  obtain⟨⟨old,he⟩,h1⟩:=st;exact wpAny_pyIter_enum he h
section
variable {X:Cx}{a:Expr}{te:DTE}{p pos:Pos}
theorem zjx{elts:List Expr}{x1}{tpos:Pos}{ta:TA}(hg:Gl X "enumerate")(hm:X.mg "enumerate" = none)(ha:PA X [a] ta)(hs:starEach [a] X.env = [(false,eval a X.env)]:=by rfl):
  PI X (.Tuple elts x1 tpos) (.Call (.Name "enumerate" p) [a] [] pos) (λσ H R=>ta σ H λvs H1=>∃y,vs = [.str y]/\y.cps.all (· < 128)=true/\R (zpg y) H1):=by
 intro pins s σ H R I h;refine Call_ (zag I hg hm boot_enumerate (PyProof.Rows.callWith_type1 (thn (ha pos pins s σ H _ I h) λus s1 ⟨vs,H1,I1,r1,q1⟩=>?_) hs rfl));obtain⟨y,e,hy,q⟩:=q1;subst e;obtain⟨v1,rfl,r1'⟩:=r1.one;obtain⟨t,rfl⟩:=r1';refine call_enumerate_str λh' he hi hsz hk=>wpAny_pyIter_enum he ?_;have ei:strIterType y = "str_ascii_iterator" := by unfold strIterType;rw[hy];rfl
 rw[ei]at hi;have I2:Inv X pins σ H1 { s1 with heap:=h' }:=I1.kept (t':=s1.toks) hk;refine⟨_,[s1.heap.objs.size+1,s1.heap.objs.size],_,_,H1,rfl,I2,zfh y t (Nat.ne_of_gt (Nat.lt_succ_self _)),⟨⟨_,he⟩,hi⟩,λb hb=>?_,q⟩;have hb':s1.heap.objs.size<=b:=by
  simp only[List.mem_cons,List.not_mem_nil,or_false]at hb;rcases hb with rfl|rfl <;> omega
 exact I1.fpOk hb' (I1.hok.fresh hb')
theorem zl4{K:PySem.W.Frag}{Kp:Hp->Hp->Prop}{H1:Hp}(x:Str):ItOk K Kp (zpg x) H1 (va 0 (yx x)) where
 go:=λH i d k e=>by
  obtain⟨y,e1,rfl⟩:=zb4 e;unfold yx at e1;rw[List.getElem?_map,Array.getElem?_toList]at e1;obtain⟨c,hc,rfl⟩:=Option.map_eq_some_iff.mp e1;have hi:i<x.cps.size:=by
   by_cases z:i<x.cps.size
   ·exact z
   ·simp[z]at hc
  refine⟨hi,λv H' yl=>?_⟩;obtain⟨p,c2,hp,h2,rfl,rfl⟩:=yl;rw[hc]at h2
  cases h2;refine⟨zt hp _,.tup (SqT.of ze) (.cons ?_ (.cons .str .nil))⟩;rw[Nat.zero_add];exact .int
 stop:=λH k=>by
  show x.cps.size<=_;rw[zb5];simp[yx]
def zfi(t:DTF):DTF:=λσ Q=>t σ λds=>match ds with
 |[.str y]=>y.cps.all (· < 128)=true/\Q (va 0 (yx y))
 |_=>False
theorem zd0{elts:List Expr}{x1}{tpos:Pos}{t:DTF}(hg:Gl X "enumerate")(hm:X.mg "enumerate" = none)(ha:DA X [a] t)(hs:starEach [a] X.env = [(false,eval a X.env)]:=by rfl):
  DI X (.Tuple elts x1 tpos) (.Call (.Name "enumerate" p) [a] [] pos) (zfi t) :=
 ⟨λpins s σ H R I ⟨H₀,σD,QD,ok,q,k⟩=>zjx hg hm ha.pa hs pins s σ H R I ⟨H₀,σD,_,ok,q,λvs H1 ds s1 r1 q1=>by
  split at q1
  ·next y=>
   cases r1 with
   |cons r t=>
    cases t
    cases r;exact⟨y,rfl,q1.1,k _ _ _ s1 (zl4 y) q1.2⟩
  ·exact q1.elim⟩⟩
end
structure zbi(K:PySem.W.Frag)(mg:Str->Option Value)(c:Str)(C:Addr)(fs:List Str):Prop where
 m:mg c=some (.ref C)
 n:PySem.W.nsIn K mainGlobals c=some (some (.ref C))
 c:Cls K C
 f:∀f∈fs,NoAttr K C f
def zfj(P:Program)(w:World)(K:PySem.W.Frag)(mg:Str->Option Value)(base:Heap)(k:Nat)(C:Addr)(m:Str)(ps:List Str)(sp:xk):Prop :=
 ∃g fd,zkt K C m g/\FnOk P w K mg base CX0 k g fd ps (qi K sp)/\Binds K fd ps []
def MkC(P:Program)(w:World)(K:PySem.W.Frag)(mg:Str->Option Value)(base:Heap)(k:Nat)(C:Addr)(ps:List Str)(sp:xk):Prop :=
 ∃g fd,Mk K C g/\FnOk P w K mg base CX0 k g fd ps (qi K sp)/\Binds K fd ps []
section
variable {X:Cx}{e e2:Expr}{es:List Expr}{te:DTE}{t:DTP}{pos:Pos}{c f m x:Str}{C g:Addr}{i j k k':Nat}{ps fs:List Str}{sp:xk}{tg:vf}
theorem wo(i:Nat){p1:Pos}(I:zbi X.K X.mg c C fs)(hm:f∈fs)(hN:X.N[i]?=some x:=by rfl)(hv:Vis X.env.scope x:=by first|exact Or.inl rfl|exact Or.inr (Or.inl rfl)|exact Or.inr (Or.inr rfl))(hd:(x ==("__debug__" : Str))=false:=by decide)
  (hcd:(x ==("__classdict__" : Str))=false:=by decide) (hb:attributeBase (.Name x p1) f X.env (eval (.Name x p1) X.env)=eval (.Name x p1) X.env:=by rfl):DE X (.Attribute (.Name x p1) f pos) (zdy i c f):=zlv i I.n I.c (I.f f hm) hN hv hd hcd hb
theorem zae(i:Nat){p1 pos':Pos}(I:zbi X.K X.mg c C fs)(hm:f∈fs)(he:DE X e te)(hN:X.N[i]?=some x:=by rfl)(hv:Vis X.env.scope x:=by first|exact Or.inl rfl|exact Or.inr (Or.inl rfl)|exact Or.inr (Or.inr rfl))(hd:(x ==("__debug__" : Str))=false:=by decide)
  (hcd:(x ==("__classdict__" : Str))=false:=by decide) (hs:swapsWith e (some (.Attribute (.Name x p1) f pos')) pos.line X.env=pure false:=by rfl):DS X (.Assign [.Attribute (.Name x p1) f pos'] e pos) (zgk i c f te):=zlw i I.n I.c (I.f f hm) he hN hv hd hcd hs
theorem zjy{y:Str}{pos' p cpos:Pos}(hN:X.N.Nodup)(hi:X.N[j]?=some y)(hx:Loc X.env.scope y)(I:zbi X.K X.mg c C fs)(M:MkC X.prog X.w X.K X.mg X.base k C ps sp)(hr:Room k' X.A)(hg:Gl X c)(ha:DPs X (e::es) t)(hk:k+1<=k':=by decide)(hdb:(c ==("__debug__" : Str))=false:=by decide)
  (he:starEach (e::es) X.env=(false,eval e X.env)::starEach es X.env:=by rfl) (hpl:(backTo cpos (starEach es X.env)).any (·.1)=false:=by rfl)
  (hs:swapsWith (.Call (.Name c p) (e::es) [] cpos) (some (.Name y pos')) pos.line X.env=pure false:=by rfl) (hf:X.fn y=true\/X.env.scope.names.lookup y=some .local:=by first|exact .inl rfl|exact .inr rfl|assumption) :
  DS X (.Assign [.Name y pos'] (.Call (.Name c p) (e::es) [] cpos) pos) (zgl j c sp t):=by
 obtain⟨g,fd,mk,F,b⟩:=M;exact zlx hN hi hx mk F hr hg I.m I.n b ha hk hdb he hpl hs hf
theorem jr{pl:Sem Bool}{p1 apos:Pos}(I:zbi X.K X.mg c C fs)(M:zfj X.prog X.w X.K X.mg X.base k C m ps sp)(hr:Room k' X.A)(hk:k<=k':=by decide)
  (hN:X.N[i]?=some x:=by rfl) (hv:Vis X.env.scope x:=by first|exact Or.inl rfl|exact Or.inr (Or.inl rfl)|exact Or.inr (Or.inr rfl)) (hd:(x ==("__debug__" : Str))=false:=by decide) (hcd:(x ==("__classdict__" : Str))=false:=by decide)
  (ht:eval (.Call (.Attribute (.Name x p1) m apos) [] [] pos) X.env=(do
   let ov <-eval (.Name x p1) X.env
   standAt apos.atName
   let (f,first) <-holding [ov] (getMethod ov m pl)
   callWith pos f first (backTo pos (starEach [] X.env)) (backToKw pos (keywordEach [] X.env))):=by rfl) :
  PE X (.Call (.Attribute (.Name x p1) m apos) [] [] pos) (jq X.K i sp (k8 i c m zdj)):=by
 obtain⟨g,fd,mt,F,b⟩:=M;exact zhl I.n I.c mt F hr b hk hN hv hd hcd ht
end
section
variable {X:Cx}
theorem zjz{L:List Str}{CK:Addr}{k kg k' i:Nat}{g n kn:Str}{ps pg:List Str}{sp:zbh}{spg:DSp}{t:DTP}{e:Expr}{es:List Expr}{kp0 hpos gp np gpos rpos2 cpos:Pos}{f:Addr}{fd:FuncData}{pins:List (Addr×Obj)}{s:Shared}{σ:St}{H H₀:Hp}{σD:DSt}{Dn:xf}
  (F:FnOk X.prog X.w X.K X.mg X.base (CXk X.prog X.w) k f fd ps (xr X.K sp)) (b:Binds X.K fd ps []) (kp:PySem.W.keepIn X.K (.ref f)=true) (G:ky X.prog X.w X.K X.mg X.base kg g pg (zx X.K spg)) (hr:Room k' X.A) (hm:X.mg kn=some (.ref CK)) (hL:∀y∈L,∀D,PySem.W.nsIn X.K mainGlobals y=some (some (.ref D))->zlr X.K CK D)
  (hN:X.N.Nodup) (hi:X.N[i]?=some n) (hl:X.env.scope.names.lookup n=some .local) (hgg:Gl X g) (hgk:Gl X kn) (hX:X.stack=X.env::X.outer) (hF:X.env.frame=some X.env.locals) (ha:DPs X (e::es) t)
  (hk:k<=k') (hkg:kg<=k') (hdg:(g ==("__debug__" : Str))=false) (hdk:(kn ==("__debug__" : Str))=false)
  (hdn:(n ==("__debug__" : Str))=false) (hcn:(n ==("__classdict__" : Str))=false)
  (he:starEach (e::es) X.env=(false,eval e X.env)::starEach es X.env) (hpl:(backTo cpos (starEach es X.env)).any (·.1)=false) (hnox:X.xe=λ_ _=>False)
  (I:Inv X pins σ H s) (ok:DOk X.K H₀ H σD σ) (q:t σD λws=>sp ws (λr=>Dn.rt r) λx=>x.1∈L/\spg [.exc x] λr=>Dn.rt r) :
  wpAny (model X.prog X.w) X.A (callWith cpos (.ref f) [] (backTo cpos (starEach (e::es) X.env)) (backToKw cpos (keywordEach [] X.env))) (λv s'=>DSP X pins H₀ H Dn (Flow.ret v) s')
   (λer s1=>wpAny (model X.prog X.w) X.A (noteFrame er X.env) (λ_ s2=>wpAny (model X.prog X.w) X.A (setFlight er none) (λ_ s3=>wpAny (model X.prog X.w) X.A (handleBy er X.env [.ExceptHandler (some (.Name kn kp0)) (some n) [.Return (some (.Call (.Name g gp) [.Name n np] [] gpos)) rpos2] hpos]) (DSP X pins H₀ H Dn) X.xe s3) X.xe s2) X.xe s1) s:=by
 refine PySem.W.callWith_K (h₀:=X.base) I.ok.mod.kin kp (wpAny_mono (ha.run cpos pins s σ H H₀ σD _ I ok q) (λus s1 ⟨vs,H1,ws,I1,r,s01,rp,q1⟩=>⟨I1.kIn,?_⟩) (λ_ _ z=>by rw[hnox]at z;exact False.elim z)) he hpl;have hlen:us.length=ps.length:=by
  rw[<-r.length];exact F.len vs H1 (λ_ _=>True) (λ_ _ _=>True) ⟨ws,_,_,rp,q1,λ_ _ _ _ _ _=>trivial,λ_ _ _ _=>trivial⟩
 have bb:BindsTo s1 fd ⟨us,[]⟩ (ps.zip us):=by
  have:=b s1 us I1.kIn (by rw[List.append_nil];exact hlen);rw[List.append_nil]at this;exact this
 refine wpAny_call (codeAny_mono (F.run X.A X.stack s1 H1 ⟨us,[]⟩ us vs (λv H'=>∃r,Same H1 H'/\ko X.K H1 H' r v/\Dn.rt r) (XE X.K H1 λx=>x.1∈L/\spg [.exc x] λr=>Dn.rt r) (hr.mono hk) I1.env0 bb r
  ⟨ws,_,_,rp,q1,λv H' r sm rr qq=>⟨r,sm,rr,qq⟩,λ_ _ _ z=>z⟩) λres s' hq=>?_)
 have back:∀{H':Hp}{r:Ret}{v:V},Same H1 H'->ko X.K H1 H' r v->ko X.K H₀ H' r v:=λ{H' r v} sm rr=>by
  cases r with
  |val d=>exact rr
  |new xs=>obtain⟨a,vs,e1,nn,e2,r⟩:=rr;exact⟨a,vs,e1,(ok.same.trans s01).free nn,e2,r⟩
 cases res with
 |error er=>
  refine zo2 (i:=i) I1 hX hF hq hgk hm hdk hN hi hl λD od H' hE=>?_;obtain⟨x,D',eD,hns,sm,fx,hxL,hsp⟩:=hE
  cases eD;refine⟨hL x.1 hxL D hns,λa fr s2 J=>?_⟩;have sm2:Same H' (upd H' a (ji D od a)):=zt fr _;have hiσ:i<σ.length:=by rw[I.len];exact(List.getElem?_eq_some_iff.mp hi).1
  have body:=zce (X:=X.held (.ref a)) (we (pos:=rpos2) (zjf (X:=X.held (.ref a)) (p:=gp) (pos:=gpos) G (hr.r0.mark _) hgg (zn (yg (X:=X.held (.ref a)) (i:=i) (pos:=np) hi (.inl hl) hdn hcn) ye) hkg hdg rfl rfl));refine wpAny_mono (body pins s2 _ _ { nx:=λ_ _=>False,rt:=λv H3=>∃r,Same (upd H' a (ji D od a)) H3/\ko X.K (upd H' a (ji D od a)) H3 r v/\Dn.rt r } J ?_) (λfl s3 z=>?_) λ_ _ z=>z
  ·refine⟨.ref a,List.getElem?_set_self hiσ,[.exc x],_,.cons ⟨a,D,od,rfl,hns,ze,?_⟩ .nil,hsp,λv H3 r sm3 rr qq=>⟨r,sm3,rr,qq⟩⟩;rcases fx with fx |⟨d,ed,fx⟩
   ·exact .inl fx
   ·exact .inr ⟨d,ed,sm2 _ _ fx⟩
  ·cases fl with
   |next=>obtain⟨_,_,_,z⟩:=z;exact z.elim
   |brk=>obtain⟨_,_,_,z⟩:=z;exact False.elim z
   |cont=>obtain⟨_,_,_,z⟩:=z;exact False.elim z
   |ret u=>
    obtain⟨v,σ3,H3,J3,rv,r,sm3,rr,qq⟩:=z;refine⟨σ3,H3,J3.unheld I.ok,λs4 J4=>⟨v,_,H3,r,J4,rv,ok.same.trans (s01.trans (sm.trans (sm2.trans sm3))),?_,qq⟩⟩
    cases r with
    |val d=>exact rr
    |new xs=>obtain⟨b',vs',e1,nn,e2,r⟩:=rr;exact⟨b',vs',e1,(ok.same.trans (s01.trans (sm.trans sm2))).free nn,e2,r⟩
 |ok fl=>
  cases fl with
  |ret u=>
   obtain⟨v,H',J,rv,r,sm,rr,qq⟩:=I1.after hq;exact⟨v,σ,H',r,J,rv,ok.same.trans (s01.trans sm),back sm rr,qq⟩
  |next=>exact False.elim hq
  |brk=>exact False.elim hq
  |cont=>exact False.elim hq
end
section
variable {X:Cx}{tg:Expr}{a b c:Expr}{p p2 pos pos2:Pos}{t:DTF}
section
variable {prog:Program}{w:World}{A:Around}{E:Value->Shared->Prop}{s:Shared}
end
end
section
open PySem.Builtin PySem.Builtin.Str
end
section
variable {X:Cx}{e:Expr}{es:List Expr}{pos:Pos}
structure DEk(X:Cx)(e:Expr)(t:DTE):Prop where
 run:∀(pins:List (Addr×Obj)) (s:Shared) (σ:St) (H H₀:Hp) (σD:DSt) (Q:D->Prop),1<=s.toks->Inv X pins σ H s->DOk X.K H₀ H σD σ->t σD Q->wpAny (model X.prog X.w) X.A (eval e X.env) (DEnd X pins σ H Q) X.xe s
structure DVk(X:Cx)(e:Expr)(t:DTE):Prop where
 run:∀(pins:List (Addr×Obj)) (s:Shared) (σ:St) (H H₀:Hp) (σD:DSt) (Q:D->Prop),1<=s.toks->Inv X pins σ H s->DOk X.K H₀ H σD σ->t σD Q->wpAny (model X.prog X.w) X.A (eval e X.env) (zmh X pins σ H Q) X.xe s
structure DFk(X:Cx)(e:Expr)(t:DTF):Prop where
 run:∀(pins:List (Addr×Obj)) (s:Shared) (σ:St) (H H₀:Hp) (σD:DSt) (Q:List D->Prop),1<=s.toks->Inv X pins σ H s->DOk X.K H₀ H σD σ->t σD Q->wpAny (model X.prog X.w) X.A (eval e X.env) (zf5 X pins σ H Q) X.xe s
structure DAk(X:Cx)(es:List Expr)(t:DTF):Prop where
 run:∀(pos:Pos) (pins:List (Addr×Obj)) (s:Shared) (σ:St) (H H₀:Hp) (σD:DSt) (Q:List D->Prop),1<=s.toks->Inv X pins σ H s->DOk X.K H₀ H σD σ->t σD Q ->
  wpAny (model X.prog X.w) X.A (spliced (backTo pos (starEach es X.env))) (λus s'=>∃vs H' ds,Inv X pins σ H' s'/\Vals vs us/\Same H H'/\Reps X.K H' ds vs/\Q ds) X.xe s
structure DSk(X:Cx)(st:Stmt)(t:DTS):Prop where
 run:∀(pins:List (Addr×Obj)) (s:Shared) (σ:St) (H H₀:Hp) (σD:DSt) (Dn:xf),1<=s.toks->Inv X pins σ H s->DOk X.K H₀ H σD σ->t Dn σD->wpAny (model X.prog X.w) X.A (exec st X.env) (DSP X pins H₀ H Dn) X.xe s
structure zse(X:Cx)(st:List Stmt)(t:DTS):Prop where
 run:∀(pins:List (Addr×Obj)) (s:Shared) (σ:St) (H H₀:Hp) (σD:DSt) (Dn:xf),1<=s.toks->Inv X pins σ H s->DOk X.K H₀ H σD σ->t Dn σD->wpAny (model X.prog X.w) X.A (execs st X.env) (DSP X pins H₀ H Dn) X.xe s
theorem DS.k{st:Stmt}{t:DTS}(h:DS X st t):DSk X st t:=⟨λpins s σ H H₀ σD Dn _ I ok q=>h.run pins s σ H H₀ σD Dn I ok q⟩
theorem DSs.k{st:List Stmt}{t:DTS}(h:DSs X st t):zse X st t:=⟨λpins s σ H H₀ σD Dn _ I ok q=>h.run pins s σ H H₀ σD Dn I ok q⟩
end
section
variable {X:Cx}{pins:List (Addr×Obj)}{σ:St}{H:Hp}{s:Shared}{P c:Addr}{q:Str}
end
section
variable {X:Cx}{pins:List (Addr×Obj)}{σ:St}{H:Hp}{a it S f:Addr}{xs:List V}{kf:Nat->Int}{kwd:List (Str×Value)}{R:Value->Shared->Prop}
structure zso(X:Cx)(pins:List (Addr×Obj))(σ:St)(H:Hp)(a it S:Addr)(xs:List V)(kf:Nat->Int)(j i:Nat)(H1:Hp)(s:Shared):Prop where
 I:Inv X pins σ H1 s
 sm:Same H H1
 st:s.heap.IsListIter it a j
 f1:FpOk X pins H1 it
 f2:FpOk X pins H1 S
 ne:it≠S
 best:∃vb tb c x,s.heap.get? S=some (seqObj "list" #[vb,.int (kf i) tb] c)/\xs[i]?=some x/\RelV x vb
 lt:i<j
 mx:∀j',j' < j->kf i<=kf j'/\(j' < i->kf i<kf j')
end
section
variable {X:Cx}{pins:List (Addr×Obj)}{σ:St}{H:Hp}{a f:Addr}{xs:List V}{kf:Nat->Int}{R:Value->Shared->Prop}{s:Shared}
end
structure zq6(y n:Str)(sc:Scope):Prop where
 kind:sc.kind=.function
 co:sc.isCoroutine=false
 gen:sc.isGenerator=false
 ne:y≠n
 loc:sc.names.lookup y=some .local
 fre:sc.names.lookup n=some .free
 only:∀x∈sc.names,x.2 ≠ .cell/\(x.2=.free->x.1=n)
section
variable {X:Cx}{a body:Expr}{ta:DTF}{tb:DTE}{p pos kp kp2 lp cp:Pos}{k:Nat}{P c:Addr}{q y n:Str}{params:Arguments}{scope:Scope}
end
end L2
namespace SQ
open PySem PyProof.Rows
set_option autoImplicit false
abbrev ipK(p:Int×Str):List Int:=p.1::p.2.cps.toList.map λn:Nat=>(n:Int)
def RefP(h:Heap)(v:Value)(p:Int×Str):Prop:=∃a t u,v=.ref a/\IsTup h a #[.int p.1 t,.str p.2 u]
theorem RefP.keep{h h':Heap}{v:Value}{p:Int×Str}(k:∀b o,h.get? b=some o->h'.get? b=some o)(x:RefP h v p):RefP h' v p:=by
 obtain⟨a,t,u,e,i⟩:=x;exact⟨a,t,u,e,i.keeps k⟩
noncomputable def zl5 (h:Heap) (v:Value):Option (List Int):=@dite _ (∃p,RefP h v p) (Classical.propDecidable _) (λx=>some (ipK x.choose)) (λ_=>none)
@[reducible] noncomputable def zsj (h:Heap):KeyKind where
 α:=List Int
 blt a b:=decide (a<b)
 irrefl a:=by simpa using List.lt_irrefl a
 trans a b c h1 h2:=by simp only[decide_eq_true_eq]at *;exact List.lt_trans h1 h2
 negTrans a b c h:=by
  simp only[decide_eq_true_eq]at *
  by_cases c:a<b
  ·exact .inl c
  ·exact .inr (List.lt_of_le_of_lt (List.not_lt.mp c) h)
 total a b h1 h2:=by simp only[decide_eq_false_iff_not]at *;exact List.le_antisymm (List.not_lt.mp h2) (List.not_lt.mp h1)
 keyOf v:=zl5 h v
 dflt:=[]
section
variable {prog:Program}{w:World}{A:Around}{E:Value->Shared->Prop}{s:Shared}
end
end SQ
namespace L2
open PySem PySem.Spec PyProof.Rows SQ
section
variable {X:Cx}
end
end L2
namespace L2
open PySem PySem.Spec PyProof.Rows
section
variable {X:Cx}{o:Expr}{td:TE}{p pos:Pos}
end
section
variable {X:Cx}
end
section
variable {X:Cx}
end
section
variable {P:Program}{w:World}{K:PySem.W.Frag}{mg:Str->Option Value}{base:Heap}{N:List Str}{qual:Str}{scope:Scope}{f:Addr}{cd:Value}{A:Around}{outer:List Env}{s:Shared}{H:Hp}{E:XK}
end
end L2
namespace L2
open PySem PySem.Spec PyProof.Rows SQ
section
variable {X:Cx}{a:Expr}{p pos p2 pos2:Pos}
end
end L2
namespace L2
open PySem PySem.Spec PyProof.Rows
section
variable {X:Cx}{e:Expr}{i:Nat}{te:DTE}{sp:xk}{t:vf}{pos:Pos}
end
section
variable {X:Cx}{e f:Expr}{es:List Expr}{te tf:DTE}{tl ta:DTF}{pos pos' p1 p2:Pos}
theorem DOk.tk{K:PySem.W.Frag}{H H₀:Hp}{σD:DSt}{σ:St}{j:Nat}{ks:List Key}(ok:DOk K H₀ H σD σ)(e:σD[j]?=some (some (.own (.tk ks)))):∃b,σ[j]?=some (some (.ref b))/\H b=some (.tup (ks.map kV)):=by
 obtain⟨v,f,ev,rO,_⟩:=ok.focus e;obtain⟨b,rfl,rfl,h⟩:=rO;exact⟨b,ev,h⟩
theorem DOk.dcT{K:PySem.W.Frag}{H H₀:Hp}{σD:DSt}{σ:St}{i:Nat}{xs:List (List Key×D)}(ok:DOk K H₀ H σD σ)(e:σD[i]?=some (some (.own (.dcT xs)))):
  ∃a vs,σ[i]?=some (some (.ref a))/\H a=some (.dT vs)/\RepKV K H xs vs/\∀ys ws,RepKV K H ys ws->DOk K H₀ (upd H a (.dT ws)) (clr (σD.set i (some (.own (.dcT ys))))) σ/\Pers H (upd H a (.dT ws)):=by
 obtain⟨v,f,ev,rO,nf,fr,put⟩:=ok.focus e;obtain⟨a,vs,rfl,rfl,ea,r⟩:=rO;refine⟨a,vs,ev,ea,r,λys ws r2=>put (upd H a (.dT ws)) (.dcT ys) [a] (λb u hb hu=>by rw[zd (λz=>hb (by rw[z];exact List.mem_cons_self))];exact hu) nf (λb hb=>.inl hb) ⟨a,ws,rfl,rfl,ze,r2.1,r2.2.mono (xc ea rfl)⟩⟩
end
end L2
namespace PySem
open Sem (wp)
def VAt(h:Heap)(a:Addr)(us:List Value)(ep:Nat):Prop:=∃o es,h.get? a=some o/\o.ExactDict/\o.data=.dict es ep/\es.toList.map (·.val)=us
theorem VAt.at{h h':Heap}{a us ep}(x:VAt h a us ep)(e:∀o,h.get? a=some o->h'.get? a=some o):VAt h' a us ep:=let ⟨o,es,ho,r⟩:=x;⟨o,es,e _ ho,r⟩
theorem VAt.typeIs{s:Shared}{a us ep}(x:VAt s.heap a us ep):s.TypeIs (.ref a) "dict" := let ⟨o,_,ho,hc,_⟩:=x;⟨o,ho,hc.1⟩
section
variable {prog:Program}{w:World}{A:Around}{E:Value->Shared->Prop}{s:Shared}
end
namespace W
section
variable {prog:Program}{w:World}{d r:Addr}{kvs:List Value}{ep:Nat}
end
end W
end PySem
namespace L2
open PySem PySem.Spec PyProof.Rows
section
variable {X:Cx}{o:Expr}{td:TE}{p pos apos cpos:Pos}
end
end L2
namespace L2
open PySem PySem.Spec PyProof.Rows SQ
section
variable {X:Cx}{pins:List (Addr×Obj)}{σ:St}{H:Hp}{s:Shared}
end
section
variable {X:Cx}{a body:Expr}{ta:DTF}{tb:DTE}{p pos p2 pos2 kp lp:Pos}{k:Nat}{P c:Addr}{q y n:Str}{params:Arguments}{scope:Scope}
end
end L2
namespace PySem
namespace SeqAt
open AutoSeq1 (wpAny_loadPart')
end SeqAt
end PySem
namespace L2
open PySem PySem.Spec PyProof.Rows
section
variable {X:Cx}
variable {o e:Expr}{to te:DTE}{apos cpos:Pos}
end
end L2
namespace SQ
open PySem PyProof.Rows
open AutoSeq1 (wpAny_loadPart')
end SQ
namespace L2
open PySem PySem.Spec PyProof.Rows SQ
section
variable {X:Cx}{pins:List (Addr×Obj)}{σ:St}{H:Hp}{a it S:Addr}{xs:List V}{ls:List (Int×List Int)}{R:Value->Shared->Prop}
structure zsp(X:Cx)(pins:List (Addr×Obj))(σ:St)(H:Hp)(a it S:Addr)(xs:List V)(ls:List (Int×List Int))(j i:Nat)(s:Shared):Prop where
 I:Inv X pins σ H s
 st:s.heap.IsListIter it a j
 f1:FpOk X pins H it
 f2:FpOk X pins H S
 ne:it≠S
 best:∃vb c x,s.heap.get? S=some (seqObj "list" #[vb,vb] c)/\xs[i]?=some x/\RelV x vb
 lt:i<j
 mx:∀(j':Nat) l l',j' < j->ls[i]?=some l->ls[j']?=some l'->¬ kL l' < kL l
end
end L2
namespace L2
open PySem PySem.Spec PyProof.Rows
section
variable {X:Cx}{o i e f k v:Expr}{te tf:DTE}{tk tv td ty:TE}{pos pos' p1 p2:Pos}
end
end L2
namespace PySem
open Sem (wp)
def KyAt(h:Heap)(a:Addr)(us:List Value)(ep:Nat):Prop:=∃o es,h.get? a=some o/\o.ExactDict/\o.data=.dict es ep/\es.toList.map (·.key)=us
theorem KyAt.typeIs{s:Shared}{a us ep}(x:KyAt s.heap a us ep):s.TypeIs (.ref a) "dict" := let ⟨o,_,ho,hc,_⟩:=x;⟨o,ho,hc.1⟩
section
variable {prog:Program}{w:World}{A:Around}{E:Value->Shared->Prop}{s:Shared}
end
end PySem
namespace L2
open PySem PySem.Spec PyProof.Rows
section
variable {X:Cx}
end
theorem zax:∀(cs:List Nat) (us:List Value),us.length=cs.length->(∀(i:Nat) v,us[i]?=some v->∃c u,cs[i]?=some c/\v=Value.str ⟨#[c]⟩ u)->Vals (cs.map λc=>V.str ⟨#[c]⟩) us
 |[],us,hl,_=>by rw[List.eq_nil_of_length_eq_zero hl];exact .nil
 |c::cs,us,hl,h=>by
  cases us with
  |nil=>cases hl
  |cons u us=>
   obtain⟨c',t,e1,e2⟩:=h 0 u rfl
   cases e1;exact .cons ⟨t,e2⟩ (zax cs us (by simpa using hl) λi v e=>h (i+1) v e)
section
variable {X:Cx}{e k:Expr}{es:List Expr}{te:DTE}{ta:DTF}{pos pos' p1 p2:Pos}
theorem zbj(hc:X.calm=true):xm X (.type "list") (λvs H Q=>∃y:Str,vs = [.str y]/\y.cps.size<=1000000/\∀d,H d=none->Q (.ref d) (upd H d (.lst (y.cps.toList.map λc=>V.str ⟨#[c]⟩)))):=by
 intro pins s σ H xs us Q I rv h;obtain⟨y,rfl,hz,q⟩:=h;obtain⟨u,rfl,r1⟩:=rv.one;obtain⟨t,rfl⟩:=r1;refine call_list_str (I.ok.hd hc) y t (λh' tk acc' c' hk hS hacc=>?_) (by rw[sizeLine_eq];omega);refine⟨.ref _,_,I.laid (t':=tk) (o:=.lst (y.cps.toList.map λc=>V.str ⟨#[c]⟩)) hk (Nat.le_refl _) ?_,rfl,q _ (I.hok.fresh (Nat.le_refl _))⟩;refine⟨by rw[List.length_map,Array.length_toList,sizeLine_eq];omega,acc'.toList,c',zax _ _ (by simpa using hacc.1) λi v ev=>?_,by simpa using hS⟩;obtain⟨c,w,h1,h2⟩:=hacc.2 i v (by simpa using ev);exact⟨c,w,by simpa using h1,h2⟩
theorem zay{K:PySem.W.Frag}{H:Hp}:∀cs:List Nat,Reps K H (cs.map λc=>PyData.str ⟨#[c]⟩) (cs.map λc=>V.str ⟨#[c]⟩)
 |[]=>.nil
 |c::cs=>.cons .str (zay cs)
def zfk(ta:DTF):DTF:=λσ Q=>ta σ λds=>match ds with
 |[.str y]=>y.cps.size<=1000000/\Q (yx y)
 |_=>False
theorem zj0{np:Pos}(hc:X.calm=true)(hg:Gl X "list")(hm:X.mg "list" = none)(ha:DA X [e] ta)(he:starEach (e :: []) X.env=(false,eval e X.env)::starEach [] X.env:=by rfl):DF X (.Call (.Name "list" np) [e] [] pos) (zfk ta) :=
 DF.of (zbx (zbj hc) hg hm boot_list ha.pa (he:=he)) λσ H H₀ σD Q ok q=>⟨H₀,σD,_,ok,q,λvs H1 ds s1 r1 q1=>by
  split at q1
  ·next y=>
   obtain⟨hz,qn⟩:=q1
   cases r1 with
   |cons r t=>
    cases t
    cases r;exact⟨y,rfl,hz,λd hd=>⟨d,_,_,rfl,s1.trans (zt hd _),s1.free hd,ze,zay _,qn⟩⟩
  ·exact q1.elim⟩
def zfl(y:Str):Str:=⟨((PySem.Builtin.Str.strSliceIndices none none (-1) y.length).filterMap (y.cps[·]?)).toArray⟩
theorem zd1(y:Str):(zfl y).length<=y.length:=by
 show(List.filterMap _ _).toArray.size<=_;rw[List.size_toArray];refine Nat.le_trans (List.length_filterMap_le _ _) ?_;have h:=sliceRange_length_le ((y.length:Int)-1) (-1) (-1) y.length (λh=>absurd h (by decide)) λ_=>⟨by omega,by omega⟩
 exact h
theorem zj1{y:Str}{c:Nat}(h:c∈(zfl y).cps.toList):c∈y.cps.toList:=by
 have h':c∈(PySem.Builtin.Str.strSliceIndices none none (-1) y.length).filterMap (y.cps[·]?):=by simpa[zfl]using h
 obtain⟨i,_,e⟩:=List.mem_filterMap.mp h';exact Array.mem_toList_iff.mpr (Array.mem_of_getElem? e)
theorem zl6{te:TE}{p2 p3 p4:Pos}{j}(he:PE X e te):PE X (.Subscript e (.Slice none none (some (.UnaryOp .USub (.Constant (.int 1) j p3) p4)) p2) pos) (λσ H Q=>te σ H λx H1=>∃y:Str,x=.str y/\y.length<=sizeLine/\Q (.str (zfl y)) H1):=by
 intro pins s σ H Q I h;refine Subscript_ (thn (he pins s σ H _ I h) λv s1 ⟨x,H1,I1,r1,q1⟩=>?_);obtain⟨y,rfl,hz,q⟩:=q1;refine wpAny_Slice ?_;rw[evalPart_none];refine wpAny_pure (wpAny_pure ?_);rw[evalPart_some];refine thn (zmd zhx yq pins s1 σ H1 (λz H=>z=.int (-1)/\H=H1) I1 ⟨1,rfl,rfl,rfl⟩) λu s2 ⟨z,H2,I2,r2,e1,e2⟩=>?_;subst e1 e2;obtain⟨tk,rfl⟩:=r2;obtain⟨t,rfl⟩:=r1;have I4:Inv X pins σ H2 { s2 with heap:=s2.heap.push { cls:=.type "slice",data:=.fields #[.none,.none,.int (-1) tk] } }:=I2.kept (t':=s2.toks) λb ob q=>Heap.get?_push_of_some _ q;refine tail_any (ops:=[.str y t,.ref s2.heap.objs.size]) (typeIs_str _ y t) PySem.F.slot_str_getitem.lookup (wpAny_getItem_str_slice (l:=none) (u:=none) (st:=some (-1,tk)) ⟨_,Heap.get?_push_size _ rfl,rfl,rfl⟩ rfl ?_) (by with_unfolding_all rfl);have e0:sliceMade y t none none (some (-1,tk))=Made.str (zfl y):=rfl;rw[e0];exact⟨Nat.le_trans (zd1 y) hz,.str _,H2,I4.kept (t':=s2.toks+1) λb o e=>e,⟨_,rfl⟩,q⟩
def zj2(te:DTE):DTE:=λσ Q=>te σ λd=>match d with
 |.str y=>y.length<=sizeLine/\Q (.str (zfl y))
 |_=>False
theorem zl7{p2 p3 p4:Pos}{j}(he:DE X e te):DE X (.Subscript e (.Slice none none (some (.UnaryOp .USub (.Constant (.int 1) j p3) p4)) p2) pos) (zj2 te) :=
 DE.of (zl6 he.pe) λσ H H₀ σD QD ok q=>⟨H₀,σD,_,ok,q,λv H1 d s1 r1 q1=>by
  cases d with
  |str y=>cases r1;exact⟨y,rfl,q1.1,_,s1,.str,q1.2⟩
  |_=>exact q1.elim⟩
end
section
variable {X:Cx}{pins:List (Addr×Obj)}{σ:St}{H:Hp}{s:Shared}{a:Addr}
theorem DOk.fzT{K:PySem.W.Frag}{H₀:Hp}{σD:DSt}{i:Nat}{ks:List (List Key×D)}(ok:DOk K H₀ H σD σ)(e:σD[i]?=some (some (.own (.fzT ks)))):∃a o vs,σ[i]?=some (some (.ref a))/\H a=some (.frz o (.dT vs))/\RepKV K H ks vs:=by
 obtain⟨v,f,ev,rO,_⟩:=ok.focus e;obtain⟨a,o,vs,rfl,rfl,ea,r⟩:=rO;exact⟨a,o,vs,ev,ea,r⟩
end
section
variable {X:Cx}{e:Expr}{st:Stmt}{t:DTS}{te:DTE}{tg:Expr}{pos pos' p1 p2:Pos}
theorem KT.at{H:Hp}:∀{vs:List (List Key×V)}{xs:List (List Key×Addr×Value)}{i:Nat}{k:List Key}{v:V},KT H vs xs->vs[i]?=some (k,v)->∃b u,xs[i]?=some (k,b,u)/\H b=some (.tup (k.map kV))
 |[],_,_,_,_,_,e=>by simp at e
 |p::vs,xs,i,k,v,h,e=>by
  cases h with
  |@cons p' q' ps qs r t=>
   cases i with
   |zero=>
    simp at e;subst e;obtain⟨k',b,u⟩:=q';obtain⟨z1,z2,_⟩:=r;have z1':k=k':=z1;subst z1';exact⟨b,u,rfl,z2⟩
   |succ i=>
    obtain⟨b,u,hu,hb⟩:=KT.at t (show vs[i]?=some (k,v) by simpa using e);exact⟨b,u,by simpa using hu,hb⟩
end
section
variable {X:Cx}{pins:List (Addr×Obj)}{σ:St}{H:Hp}{s:Shared}{a p:Addr}{A:Around}{E:Value->Shared->Prop}
end
section
variable {X:Cx}{pos p1 p2:Pos}
end
abbrev zl8:=DSt->(D->DSt->Prop)->Prop
abbrev zph:=DSt->(Bool->DSt->Prop)->Prop
structure DEG(X:Cx)(e:Expr)(t:zl8):Prop where
 run:∀(pins:List (Addr×Obj)) (s:Shared) (σ:St) (H H₀:Hp) (σD:DSt) (Q:D->DSt->Prop),Inv X pins σ H s->DOk X.K H₀ H σD σ->t σD Q ->
  wpAny (model X.prog X.w) X.A (eval e X.env) (λu s'=>∃v H' d σD',Inv X pins σ H' s'/\RelV v u/\Pers H H'/\DOk X.K H₀ H' σD' σ/\Rep X.K H' d v/\Q d σD') X.xe s
structure DTX(X:Cx)(e:Expr)(t:zph):Prop where
 run:∀(pins:List (Addr×Obj)) (s:Shared) (σ:St) (H H₀:Hp) (σD:DSt) (Q:Bool->DSt->Prop),Inv X pins σ H s->DOk X.K H₀ H σD σ->t σD Q ->
  wpAny (model X.prog X.w) X.A (isTrue e X.env (eval e X.env)) (λb s'=>∃H' σD',Inv X pins σ H' s'/\Pers H H'/\DOk X.K H₀ H' σD' σ/\Q b σD') X.xe s
structure DWX(X:Cx)(e:Expr)(t:zph):Prop where
 run:∀(whole:Sem Value) (pins:List (Addr×Obj)) (s:Shared) (σ:St) (H H₀:Hp) (σD:DSt) (Q:Bool->DSt->Prop),Inv X pins σ H s->DOk X.K H₀ H σD σ->t σD Q ->
  wpAny (model X.prog X.w) X.A (isTrue e X.env whole) (λb s'=>∃H' σD',Inv X pins σ H' s'/\Pers H H'/\DOk X.K H₀ H' σD' σ/\Q b σD') X.xe s
section
variable {X:Cx}{e a b:Expr}{es rest:List Expr}{te:DTE}{ta tb:zl8}{tx ty:zph}{pos p:Pos}{i:Nat}{sp:xk}{t:vf}
theorem DEG.of{t':TE}(h:PE X e t')(k:∀σ H H₀ σD QD,DOk X.K H₀ H σD σ->ta σD QD->t' σ H (λv H'=>∃d σD',Pers H H'/\DOk X.K H₀ H' σD' σ/\Rep X.K H' d v/\QD d σD')):DEG X e ta :=
 ⟨λpins s σ H H₀ σD Q I ok q=>thn (h pins s σ H _ I (k σ H H₀ σD Q ok q)) λu s' zz=>by
  obtain⟨v,H',I',r,d,σD',pr,ok',rp,qd⟩:=zz;exact⟨v,H',d,σD',I',r,pr,ok',rp,qd⟩⟩
variable {as bs:List Stmt}{ua ub:DTS}{ga gb:GTS}
end
section
variable {K:PySem.W.Frag}{H₀ H:Hp}{σD:DSt}{σ:St}
end
abbrev zq8:=List W->O->O->List W->(D->O->O->Prop)->Prop
structure DPH(X:Cx)(i j:Nat)(es:List Expr)(t:vf):Prop where
 run:∀(pos:Pos) (pins:List (Addr×Obj)) (s:Shared) (σ:St) (H H₀:Hp) (σD:DSt) (Q:List W->List W->Prop),Inv X pins σ H s->DOk X.K H₀ H σD σ->t σD Q ->
  wpAny (model X.prog X.w) X.A (spliced (backTo pos (starEach es X.env))) (λus s'=>∃vp v w vq H' wp wq,Inv X pins σ H' s'/\Vals (vp++v::w::vq) us/\Same H H'/\σ[i]?=some (some v)/\σ[j]?=some (some w)/\RepWs X.K H' wp vp/\RepWs X.K H' wq vq/\Q wp wq) X.xe s
section
variable {X:Cx}{e:Expr}{es:List Expr}{k k' i j:Nat}{x:Str}{ps:List Str}{sp:zq8}{t:vf}{p pos:Pos}
end
section
variable {P:Program}{w:World}{K:PySem.W.Frag}{mg:Str->Option Value}{base:Heap}
end
section
variable {K:PySem.W.Frag}{H₀ H:Hp}{σD:DSt}{σ:St}
theorem InsA.keep{H':Hp}{c:Str}{fs:List (Str×D)}{p:Addr×Addr}(pr:Pers H H')(k1:∀u,H p.1=some u->H' p.1=some u)(k2:∀u,H p.2=some u->H' p.2=some u):InsA K H c fs p->InsA K H' c fs p:=by
 rintro ⟨C,fv,n,e1,e2,e3,r⟩;exact⟨C,fv,n,k1 _ e1,k2 _ e2,e3,r.mono pr⟩
theorem InsR.at{c:Str}:∀{fss:List (List (Str×D))}{ps:List (Addr×Addr)}{k:Nat}{fs:List (Str×D)},InsR K H c fss ps->fss[k]?=some fs ->
  ∃l p r,ps=l++p::r/\l.length=k/\InsA K H c fs p/\∀H' fs' p',Pers H H'->(∀x∈fpI l++fpI r,∀u,H x=some u->H' x=some u)->InsA K H' c fs' p'->InsR K H' c (fss.set k fs') (l++p'::r)
 |[],_,_,_,_,e=>by simp at e
 |_::_,[],_,_,h,_=>h.elim
 |fs::fss,p::ps,0,_,h,e=>by
  simp at e;subst e;exact⟨[],p,ps,rfl,rfl,h.1,λH' fs' p' pr k i=>⟨i,h.2.keep pr λa ha u hu=>k a (by simpa[fpI]using ha) u hu⟩⟩
 |fs::fss,p::ps,k+1,g,h,e=>by
  obtain⟨l,q,r,rfl,hl,i,put⟩:=InsR.at h.2 (show fss[k]?=some g by simpa using e);refine⟨p::l,q,r,rfl,by simp[hl],i,λH' fs' p' pr kk i'=>⟨h.1.keep pr (λu hu=>kk p.1 (by simp[fpI]) u hu) (λu hu=>kk p.2 (by simp[fpI]) u hu),put H' fs' p' pr (λx hx u hu=>kk x ?_ u hu) i'⟩⟩;rcases List.mem_append.mp hx with z|z
  ·exact List.mem_append_left _ (List.mem_cons_of_mem _ (List.mem_cons_of_mem _ z))
  ·exact List.mem_append_right _ z
theorem InsR.len{c:Str}:∀{fss:List (List (Str×D))}{ps:List (Addr×Addr)},InsR K H c fss ps->ps.length=fss.length
 |[],[],_=>rfl
 |[],_::_,h=>h.elim
 |_::_,[],h=>h.elim
 |_::_,_::_,h=>by rw[List.length_cons,List.length_cons,h.2.len]
theorem InsR.snoc{c:Str}{fs:List (Str×D)}{p:Addr×Addr}(i:InsA K H c fs p):∀{fss:List (List (Str×D))}{ps:List (Addr×Addr)},InsR K H c fss ps->InsR K H c (fss ++ [fs]) (ps ++ [p])
 |[],[],_=>⟨i,trivial⟩
 |[],_::_,h=>h.elim
 |_::_,[],h=>h.elim
 |_::_,_::_,h=>⟨h.1,h.2.snoc i⟩
theorem InsA.of{c:Str}{fs:List (Str×D)}{b:Addr}{f:List Addr}(h:RepO K H (.ins c fs) (.ref b) f):∃dx,f = [b,dx]/\InsA K H c fs (b,dx):=by
 obtain⟨b',dx,C,fv,e,rfl,n,e1,e2,e3,r⟩:=h
 cases e;exact⟨dx,rfl,C,fv,n,e1,e2,e3,r⟩
end
section
variable {X:Cx}{e ie:Expr}{es:List Expr}{te ti:DTE}{t:DTP}{pos:Pos}{c f m x:Str}{C g:Addr}{i j k k':Nat}{ps fs:List Str}{sp:xk}
structure DNG(X:Cx)(e:Expr)(t:zl8):Prop where
 run:∀(pins:List (Addr×Obj)) (s:Shared) (σ:St) (H H₀:Hp) (σD:DSt) (Q:D->DSt->Prop),Inv X pins σ H s->DOk X.K H₀ H σD σ->t σD Q ->
  wpAny (model X.prog X.w) X.A (eval e X.env) (λu s'=>∃v H' d σD',Inv X pins σ H' s'/\RelV v u/\Pers H H'/\DOk X.K H₀ H' σD' σ/\RepN X.K H' d v/\Q d σD') X.xe s
theorem zj3{α:Type}{l:List α}{n:Nat}{a:α}(h:l[n]?=some a):l.set n a=l:=by
 refine List.ext_getElem? λm=>?_
 by_cases z:n=m
 ·subst z;rw[List.getElem?_set_self (List.getElem?_eq_some_iff.mp h).1,h]
 ·rw[List.getElem?_set_ne z]
theorem DOk.clr{K:PySem.W.Frag}{H₀ H:Hp}{σD:DSt}{σ:St}{o:O}(h:DOk K H₀ H σD σ)(eo:σD[i]?=some (some (.own o))):DOk K H₀ H (clr σD) σ:=by
 obtain⟨v,f,ev,rO,nf,fr,put⟩:=h.focus eo;have z:=(put H o f (λ_ _ _ hu=>hu) nf (λ_ ha=>.inl ha) rO).1;rw[zj3 eo]at z;exact z
end
section
variable {X:Cx}{e ie:Expr}{te ti:DTE}{pos:Pos}
end
abbrev EXG:=Str×List (Str×Int)->O->Prop
theorem zmt{P:Program}{w:World}{K:PySem.W.Frag}{mg:Str->Option Value}{base:Heap}{N:List Str}{qual:Str}{scope:Scope}{f:Addr}{cd:Value}{A:Around}{outer:List Env}{s:Shared}{H:Hp}{E Ec:XK}
  (hE:∀c od H',Ec c od H'->E c od H'):qp (CXk P w) (y6 (CXk P w) P w K mg base N qual scope f cd A outer s H E) Ec:=by
 intro pins σ H1 s1 e s' I hq;obtain⟨a,C,od,H',rfl,os,bare,un,hok,new,fr,fly,hE'⟩:=hq;have J:=I.call' os un hok bare (λb hb=>nomatch hb);refine zms J (.inl fly) ?_ fr (hE _ _ _ hE')
 cases z:s.heap.get? a with
 |none=>rfl
 |some o=>
  obtain⟨o',e'⟩:=I.base.there a o z (by intro y;cases y);rw[new]at e'
  cases e'
section
variable {K:PySem.W.Frag}{H₀ H H1:Hp}{σD:DSt}{σ:St}
end
structure DGX(X:Cx)(H₀:Hp)(st:Stmt)(t:GTS):Prop where
 run:∀(pins:List (Addr×Obj)) (s:Shared) (σ:St) (H:Hp) (σD:DSt) (Gn:zav),Inv X pins σ H s->DOk X.K H₀ H σD σ->t Gn σD->wpAny (model X.prog X.w) X.A (exec st X.env) (SP X pins (jz X.K H₀ H Gn)) X.xe s
structure zsq(X:Cx)(H₀:Hp)(st:List Stmt)(t:GTS):Prop where
 run:∀(pins:List (Addr×Obj)) (s:Shared) (σ:St) (H:Hp) (σD:DSt) (Gn:zav),Inv X pins σ H s->DOk X.K H₀ H σD σ->t Gn σD->wpAny (model X.prog X.w) X.A (execs st X.env) (SP X pins (jz X.K H₀ H Gn)) X.xe s
section
variable {X:Cx}{H₀:Hp}{st:Stmt}{sts rest:List Stmt}{t u:GTS}{pos:Pos}
theorem DGX.of{t':TS}(h:PS X st t')(k:∀σ H σD Gn,DOk X.K H₀ H σD σ->t Gn σD->t' (jz X.K H₀ H Gn) σ H):DGX X H₀ st t :=
 ⟨λpins s σ H σD Gn I ok q=>h pins s σ H _ I (k σ H σD Gn ok q)⟩
end
section
variable {P:Program}{w:World}{K:PySem.W.Frag}{mg:Str->Option Value}{base:Heap}{N:List Str}{qual:Str}{scope:Scope}{f0:Addr}{cd:Value}{A:Around}{outer:List Env}{s:Shared}{H H₀:Hp}{E:XK}{a:Addr}{ex:EXG}
end
section
variable {P:Program}{w:World}{K:PySem.W.Frag}{mg:Str->Option Value}{base:Heap}
end
section
variable {X:Cx}{e a b:Expr}{es rest:List Expr}{tc:DTT}{ta tb:zl8}{pos p:Pos}{i j:Nat}
end
section
variable {K:PySem.W.Frag}{H₀ H:Hp}{σD:DSt}{σ:St}
theorem Nst.split:∀{xss:List (List D)}{as:List Addr}{k:Nat}{xs:List D},Nst K H xss as->xss[k]?=some xs ->
  ∃l b r,as=l++b::r/\l.length=k/\(∃vs,H b=some (.lst vs)/\Reps K H xs vs)/\∀H' xs' vs',Pers H H'->(∀x∈l++r,∀u,H x=some u->H' x=some u)->H' b=some (.lst vs')->Reps K H' xs' vs'->Nst K H' (xss.set k xs') (l++b::r)
 |[],_,_,_,_,e=>by simp at e
 |_::_,[],_,_,h,_=>h.elim
 |xs::xss,b::bs,0,_,h,e=>by
  simp at e;subst e;exact⟨[],b,bs,rfl,rfl,h.1,λH' xs' vs' pr k e1 r1=>⟨⟨vs',e1,r1⟩,h.2.keep pr λa ha u hu=>k a (by simpa using ha) u hu⟩⟩
 |xs::xss,b::bs,k+1,g,h,e=>by
  obtain⟨l,q,r,rfl,hl,i,put⟩:=Nst.split h.2 (show xss[k]?=some g by simpa using e);refine⟨b::l,q,r,rfl,by simp[hl],i,λH' xs' vs' pr kk e1 r1=>⟨?_,put H' xs' vs' pr (λx hx u hu=>kk x ?_ u hu) e1 r1⟩⟩
  ·obtain⟨vs,e2,r2⟩:=h.1;exact⟨vs,kk b (by simp) _ e2,r2.mono pr⟩
  ·rcases List.mem_append.mp hx with z|z
   ·exact List.mem_append_left _ (List.mem_cons_of_mem _ z)
   ·exact List.mem_append_right _ z
end
section
variable {X:Cx}{k k' i j pn:Nat}{f:Str}{ps:List Str}{sp:zq8}{ti tj:DTE}{p pos:Pos}
end
section
variable {X:Cx}{e e2:Expr}{es es2:List Expr}{t1 t2:DTP}{pos:Pos}{c:Str}{C:Addr}{j k k':Nat}{ps fs:List Str}{sp:xk}
end
section
variable {X:Cx}
def zcv(L:List Str)(j:Nat)(sp0 sp1 sp2:zbh)(spg:DSp)(t:DTP):DTS:=λDn σ=>match σ[j]? with
 |some (some (.val (.int w)))=>(w=0/\t σ λws=>sp0 ws (λr=>Dn.rt r) λx=>x.1∈L/\spg [.exc x] λr=>Dn.rt r)\/(w=1/\t σ λws=>sp1 ws (λr=>Dn.rt r) λx=>x.1∈L/\spg [.exc x] λr=>Dn.rt r)\/(w=2/\t σ λws=>sp2 ws (λr=>Dn.rt r) λx=>x.1∈L/\spg [.exc x] λr=>Dn.rt r)
 |_=>False
theorem zj4{L:List Str}{CK:Addr}{k0 k1 k2 kg k' i j:Nat}{x0 x1 x2 g n kn y:Str}{ps0 ps1 ps2 pg:List Str}{sp0 sp1 sp2:zbh}{spg:DSp}{t:DTP}{e:Expr}{es:List Expr}{p0 p1 p2 lp yp sp' kp0 hpos gp np gpos rpos rpos2 cpos pos:Pos}
  (C0:y0 X.prog X.w X.K X.mg X.base k0 x0 ps0 (xr X.K sp0)) (C1:y0 X.prog X.w X.K X.mg X.base k1 x1 ps1 (xr X.K sp1)) (C2:y0 X.prog X.w X.K X.mg X.base k2 x2 ps2 (xr X.K sp2)) (G:ky X.prog X.w X.K X.mg X.base kg g pg (zx X.K spg)) (hr:Room k' X.A) (hm:X.mg kn=some (.ref CK)) (hL:∀y∈L,∀D,PySem.W.nsIn X.K mainGlobals y=some (some (.ref D))->zlr X.K CK D)
  (hN:X.N.Nodup) (hi:X.N[i]?=some n) (hl:X.env.scope.names.lookup n=some .local) (hj:X.N[j]?=some y) (hg0:Gl X x0) (hg1:Gl X x1) (hg2:Gl X x2) (hgg:Gl X g) (hgk:Gl X kn) (hX:X.stack=X.env::X.outer) (hF:X.env.frame=some X.env.locals) (ha:DPs X (e::es) t)
  (hk0:k0<=k':=by decide) (hk1:k1<=k':=by decide) (hk2:k2<=k':=by decide) (hkg:kg<=k':=by decide) (hd0:(x0 ==("__debug__" : Str))=false:=by decide) (hd1:(x1 ==("__debug__" : Str))=false:=by decide) (hd2:(x2 ==("__debug__" : Str))=false:=by decide) (hdg:(g ==("__debug__" : Str))=false:=by decide) (hdk:(kn ==("__debug__" : Str))=false:=by decide)
  (hdn:(n ==("__debug__" : Str))=false:=by decide) (hcn:(n ==("__classdict__" : Str))=false:=by decide) (hv:Vis X.env.scope y:=by first|exact Or.inl rfl|exact Or.inr (Or.inl rfl)|exact Or.inr (Or.inr rfl)) (hdy:(y ==("__debug__" : Str))=false:=by decide) (hcy:(y ==("__classdict__" : Str))=false:=by decide)
  (he:starEach (e::es) X.env=(false,eval e X.env)::starEach es X.env:=by rfl) (hpl:(backTo cpos (starEach es X.env)).any (·.1)=false:=by rfl) (hnox:X.xe=λ_ _=>False:=by rfl) :
  DS X (.Try [.Return (some (.Call (.Subscript (.List [.Name x0 p0,.Name x1 p1,.Name x2 p2] lp) (.Name y yp) sp') (e::es) [] cpos)) rpos] [.ExceptHandler (some (.Name kn kp0)) (some n) [.Return (some (.Call (.Name g gp) [.Name n np] [] gpos)) rpos2] hpos] [] [] pos) (zcv L j sp0 sp1 sp2 spg t):=⟨λpins s σ H H₀ σD Dn I ok q=>by
 obtain⟨f0,fd0,F0,b0,kp0',m0⟩:=C0;obtain⟨f1,fd1,F1,b1,kp1',m1⟩:=C1;obtain⟨f2,fd2,F2,b2,kp2',m2⟩:=C2;unfold zcv at q
 split at q
 ·next w ew=>
  obtain⟨vw,e1,rw'⟩:=ok.val ew
  cases rw';refine wpAny_Try_except (wpAny_execs_cons (wpAny_Return_some ?_));show wpAny _ _ (eval (.Subscript (.List [.Name x0 p0,.Name x1 p1,.Name x2 p2] lp) (.Name y yp) sp') X.env >>= _) _ _ s;have P:PE X (.Subscript (.List [.Name x0 p0,.Name x1 p1,.Name x2 p2] lp) (.Name y yp) sp') _:=wx ix_list (zh3 (zn (y9 (v:=.ref f0) hg0 m0 rfl hd0) (zn (y9 (v:=.ref f1) hg1 m1 rfl hd1) (zn (y9 (v:=.ref f2) hg2 m2 rfl hd2) ye rfl) rfl) rfl)) (yg (i:=j) hj hv hdy hcy) (λ_ _=>rfl);have fin:∀{k f fd ps sp} (F:FnOk X.prog X.w X.K X.mg X.base (CXk X.prog X.w) k f fd ps (xr X.K sp)) (b:Binds X.K fd ps []) (kp:PySem.W.keepIn X.K (.ref f)=true) (hk:k<=k') (q:t σD λws=>sp ws (λr=>Dn.rt r) λx=>x.1∈L/\spg [.exc x] λr=>Dn.rt r) (s1:Shared) (H1:Hp),Inv X pins σ H1 s1->Same H H1 ->
    wpAny (model X.prog X.w) X.A (callWith cpos (.ref f) [] (backTo cpos (starEach (e::es) X.env)) (backToKw cpos (keywordEach [] X.env))) (λv s'=>DSP X pins H₀ H Dn (Flow.ret v) s')
     (λer s1=>wpAny (model X.prog X.w) X.A (noteFrame er X.env) (λ_ s2=>wpAny (model X.prog X.w) X.A (setFlight er none) (λ_ s3=>wpAny (model X.prog X.w) X.A (handleBy er X.env [.ExceptHandler (some (.Name kn kp0)) (some n) [.Return (some (.Call (.Name g gp) [.Name n np] [] gpos)) rpos2] hpos]) (DSP X pins H₀ H Dn) X.xe s3) X.xe s2) X.xe s1) s1:=λF b kp hk q s1 H1 I1 sm=>by
   refine wpAny_mono (zjz (i:=i) (kp0:=kp0) (hpos:=hpos) (gp:=gp) (np:=np) (gpos:=gpos) (rpos2:=rpos2) F b kp G hr hm hL hN hi hl hgg hgk hX hF ha hk hkg hdg hdk hdn hcn he hpl hnox I1 (ok.after sm) q) (λv s' z=>z.back sm.pers) λer s' z=>?_;refine wpAny_mono z (λ_ s2 z=>wpAny_mono z (λ_ s3 z=>wpAny_mono z (λfl s4 z=>z.back sm.pers) λ_ _ z=>z) λ_ _ z=>z) λ_ _ z=>z
  have go:∀(f:Addr),atI [V.ref f0,V.ref f1,V.ref f2] w=some (V.ref f)->wpAny (model X.prog X.w) X.A (eval (.Subscript (.List [.Name x0 p0,.Name x1 p1,.Name x2 p2] lp) (.Name y yp) sp') X.env) (λu s1=>u=.ref f/\∃H1,Inv X pins σ H1 s1/\Same H H1) (λ_ _=>False) s:=λf ha=>by
   refine wpAny_mono (P pins s σ H (λv H'=>v=.ref f/\Same H H') I ?_) (λu s1 ⟨v,H1,I1,r1,e2,sm⟩=>?_) (λ_ _ z=>by rw[hnox]at z;exact z.elim)
   ·exact⟨by simp[sizeLine_eq],λp hp=>⟨_,e1,p,_,w,_,rfl,rfl,SqL.of ze,ha,rfl,zt hp _⟩⟩
   ·subst e2;exact⟨r1,H1,I1,sm⟩
  rcases q with⟨rfl,q⟩ |⟨rfl,q⟩ |⟨rfl,q⟩
  ·refine wpAny_bind (wpAny_mono (go f0 rfl) (λu s1 ⟨eu,H1,I1,sm⟩=>?_) λ_ _ z=>z.elim);subst eu;exact fin F0 b0 kp0' hk0 q s1 H1 I1 sm
  ·refine wpAny_bind (wpAny_mono (go f1 rfl) (λu s1 ⟨eu,H1,I1,sm⟩=>?_) λ_ _ z=>z.elim);subst eu;exact fin F1 b1 kp1' hk1 q s1 H1 I1 sm
  ·refine wpAny_bind (wpAny_mono (go f2 rfl) (λu s1 ⟨eu,H1,I1,sm⟩=>?_) λ_ _ z=>z.elim);subst eu;exact fin F2 b2 kp2' hk2 q s1 H1 I1 sm
 ·exact q.elim⟩
end
abbrev zcw:=List W->(D->List D->Prop)->EX->Prop
def zho(K:PySem.W.Frag)(H H':Hp)(d:D)(xs:List D)(v:V):Prop:=∃p a u vs,v=.ref p/\SqT K H' p [u,.ref a]/\Rep K H' d u/\H a=none/\H' a=some (.lst vs)/\Reps K H' xs vs
def vg(K:PySem.W.Frag)(sp:zcw):Sp:=λvs H Q E=>∃ws QD ex,RepWs K H ws vs/\sp ws QD ex/\(∀v H' d xs,Same H H'->zho K H H' d xs v->QD d xs->Q v H')/\∀c od H',XE K H ex c od H'->E c od H'
abbrev zcx:=(D->List D->Prop)->DSt->Prop
def zq9(X:Cx)(pins:List (Addr×Obj))(H₀:Hp)(Q:D->List D->Prop)(f:Flow)(s':Shared):Prop:=∃u v σ' H' d xs,f=.ret u/\Inv X pins σ' H' s'/\RelV v u/\Same H₀ H'/\zho X.K H₀ H' d xs v/\Q d xs
structure DPSs(X:Cx)(sts:List Stmt)(t:zcx):Prop where
 run:∀(pins:List (Addr×Obj)) (s:Shared) (σ:St) (H H₀:Hp) (σD:DSt) (Q:D->List D->Prop),Inv X pins σ H s->DOk X.K H₀ H σD σ->t Q σD->wpAny (model X.prog X.w) X.A (execs sts X.env) (zq9 X pins H₀ Q) X.xe s
structure zl9(X:Cx)(sts:List Stmt)(t:zcx):Prop where
 run:∀(pins:List (Addr×Obj)) (s:Shared) (σ:St) (H:Hp) (σD:DSt) (Q:D->List D->Prop),Inv X pins σ H s->DOk X.K X.H₀ H σD σ->t Q σD->wpAny (model X.prog X.w) X.A (execs sts X.env) (zq9 X pins X.H₀ Q) X.xe s
section
variable {X:Cx}{st:Stmt}{rest:List Stmt}{t:DTS}{u:zcx}{e:Expr}{pos:Pos}{i j:Nat}{sp:xk}{tg:vf}
def zd2(t:DTS)(u:zcx):zcx:=λQ σ=>t { nx:=u Q,rt:=λ_=>False } σ
theorem zaz(h:DS X st t)(r:DPSs X rest u):DPSs X (st::rest) (zd2 t u):=⟨λpins s σ H H₀ σD Q I ok q=>by
 refine wpAny_execs_cons (thn (h.run pins s σ H H₀ σD _ I ok q) λf s1 z=>?_)
 cases f with
 |next=>obtain⟨σ',H',σD',I',ok',p,q'⟩:=z;exact r.run pins s1 σ' H' H₀ σD' Q I' ok' q'
 |brk=>obtain⟨_,_,_,_,_,_,z⟩:=z;exact z.elim
 |cont=>obtain⟨_,_,_,_,_,_,z⟩:=z;exact z.elim
 |ret v=>obtain⟨_,_,_,_,_,_,_,_,z⟩:=z;exact z.elim⟩
theorem zj5(h:DSX X st t)(r:zl9 X rest u):zl9 X (st::rest) (zd2 t u):=⟨λpins s σ H σD Q I ok q=>by
 refine wpAny_execs_cons (thn (h.run pins s σ H σD _ I ok q) λf s1 z=>?_)
 cases f with
 |next=>obtain⟨σ',H',σD',I',ok',p,q'⟩:=z;exact r.run pins s1 σ' H' σD' Q I' ok' q'
 |brk=>obtain⟨_,_,_,_,_,_,z⟩:=z;exact z.elim
 |cont=>obtain⟨_,_,_,_,_,_,z⟩:=z;exact z.elim
 |ret v=>obtain⟨_,_,_,_,_,_,_,_,z⟩:=z;exact z.elim⟩
def zj6(i j:Nat)(sp:xk)(t:vf):zcx:=λQ σ=>qv i sp t (λd σ'=>match σ'[j]? with
 |some (some (.own (.lst xs)))=>Q d xs
 |_=>False) σ
theorem zma(j:Nat){y:Str}{py:Pos}{x1}{p2:Pos}(P:PE X e (jq X.K i sp tg))(hN:X.N[j]?=some y:=by rfl)(hv:Vis X.env.scope y:=by first|exact Or.inl rfl|exact Or.inr (Or.inl rfl)|exact Or.inr (Or.inr rfl))(hd:(y ==("__debug__" : Str))=false:=by decide)(hcd:(y ==("__classdict__" : Str))=false:=by decide)
  (hs1:starEach [e,.Name y py] X.env=(false,eval e X.env)::starEach [.Name y py] X.env:=by rfl) (hs2:starEach [.Name y py] X.env=(false,eval (.Name y py) X.env)::starEach [] X.env:=by rfl) :
  DPSs X [.Return (some (.Tuple [e,.Name y py] x1 p2)) pos] (zj6 i j sp tg):=⟨λpins s σ H H₀ σD Q I ok q=>by
 refine wpAny_execs_cons (thn (we (zer (zn P (zn (yg (i:=j) hN hv hd hcd) ye hs2) hs1)) pins s σ H { nx:=λ_ _=>False,rt:=λv H'=>∃d xs,Same H₀ H'/\zho X.K H₀ H' d xs v/\Q d xs } I ?_) λf s1 z=>?_)
 ·refine qw ok q λv H' d σD' ok' pr rp qd=>?_
  split at qd
  ·next xs eo=>
   obtain⟨a,vs,e1,e2,r,n⟩:=ok'.ownL eo;refine⟨.ref a,e1,by simp[sizeLine_eq],λp hp=>?_⟩;have sn:=zt hp (.tup [v,.ref a]);exact⟨d,xs,ok'.same.trans sn,⟨p,a,v,vs,rfl,SqT.of ze,rp.same sn,n,sn _ _ e2,r.same sn⟩,qd⟩
  ·exact qd.elim
 ·cases f with
  |next=>obtain⟨_,_,_,z⟩:=z;exact z.elim
  |brk=>obtain⟨_,_,_,z⟩:=z;exact False.elim z
  |cont=>obtain⟨_,_,_,z⟩:=z;exact False.elim z
  |ret u=>obtain⟨v,σ',H',J,rv,d,xs,sm,rp,qd⟩:=z;exact⟨u,v,σ',H',d,xs,rfl,J,rv,sm,rp,qd⟩⟩
def zsf(K:PySem.W.Frag)(t:zcx):TS:=λE σ H=>∃H₀ σD QD,DOk K H₀ H σD σ/\t QD σD/\∀v H' d xs,Same H₀ H'->zho K H₀ H' d xs v->QD d xs->E.rt v H'
theorem DPSs.ps{sts:List Stmt}(h:DPSs X sts u):PSs X sts (zsf X.K u):=by
 intro pins s σ H E I zz;obtain⟨H₀,σD,QD,ok,q,k⟩:=zz;refine thn (h.run pins s σ H H₀ σD QD I ok q) λf s' z=>?_;obtain⟨u,v,σ',H',d,xs,rfl,J,rv,sm,rp,qd⟩:=z;exact⟨v,σ',H',J,rv,k v H' d xs sm rp qd⟩
def zfm(sp:zcw)(t:DTP):zcx:=λQ σ=>t σ λws=>sp ws Q λ_=>False
theorem zj7{k k':Nat}{x:Str}{ps:List Str}{sp:zcw}{t:DTP}{e:Expr}{es:List Expr}{np cpos:Pos}(C:w6 X.prog X.w X.K X.mg X.base k x ps (vg X.K sp))(hr:Room k' X.A)(hg:Gl X x)(ha:DPs X (e::es) t)(hk:k<=k':=by decide)(hdb:(x ==("__debug__" : Str))=false:=by decide)
  (he:starEach (e::es) X.env=(false,eval e X.env)::starEach es X.env:=by rfl) (hpl:(backTo cpos (starEach es X.env)).any (·.1)=false:=by rfl):zl9 X [.Return (some (.Call (.Name x np) (e::es) [] cpos)) pos] (zfm sp t):=⟨λpins s σ H σD Q I ok q=>by
 refine wpAny_execs_cons (thn (we (kl C hr hg ha.pa hk hdb he hpl) pins s σ H { nx:=λ_ _=>False,rt:=λv H'=>∃d xs,Same X.H₀ H'/\zho X.K X.H₀ H' d xs v/\Q d xs } I ?_) λf s1 z=>?_)
 ·refine⟨X.H₀,σD,_,ok,q,λvs H1 ws s1 r1 q1=>?_⟩;show vg X.K sp (vs ++ []) H1 _ _;rw[List.append_nil];refine⟨ws,_,_,r1,q1,λv H' d xs s2 rp qd=>⟨d,xs,(ok.same.trans s1).trans s2,?_,qd⟩,λc od H' z=>?_⟩
  ·obtain⟨p,a,u,vs',e1,h1,h2,n,h3,h4⟩:=rp;exact⟨p,a,u,vs',e1,h1,h2,(ok.same.trans s1).free n,h3,h4⟩
  ·obtain⟨_,_,_,_,_,_,z⟩:=z;exact z.elim
 ·cases f with
  |next=>obtain⟨_,_,_,z⟩:=z;exact z.elim
  |brk=>obtain⟨_,_,_,z⟩:=z;exact False.elim z
  |cont=>obtain⟨_,_,_,z⟩:=z;exact False.elim z
  |ret u=>obtain⟨v,σ',H',J,rv,d,xs,sm,rp,qd⟩:=z;exact⟨u,v,σ',H',d,xs,rfl,J,rv,sm,rp,qd⟩⟩
end
section
variable {P:Program}{w:World}{K:PySem.W.Frag}{mg:Str->Option Value}{base:Heap}
theorem Fun.dokP{x qual:Str}{st:Stmt}{f:Addr}{fd:FuncData}{N ps:List Str}{k:Nat}{sp:zcw}(F:Fun K x qual st f fd)(S:zm N ps (zb st))(len:∀ws Q ex,sp ws Q ex->ws.length=ps.length)
  (hbody:∀(cdv:Value) (A:Around) (outer:List Env) (s:Shared) (H:Hp) (ws:List W) (Q:D->List D->Prop) (ex:EX) (E:XK),Room k (A.deeper (envOfC qual (zb st) s.heap.objs.size f cdv))->sp ws Q ex ->
   ∃t,DPSs (y6 CX0 P w K mg base N qual (zb st) f cdv A outer s H E).nox (zy st) t/\t Q (xi N ws)):FnOk P w K mg base CX0 (k+1) f fd ps (vg K sp):=by
 refine F.ok S (λvs H Q E h=>?_) λcdv A outer s H vs Q E hr h=>?_
 ·obtain⟨ws,QD,ex,r,q,_⟩:=h;rw[<-r.length];exact len ws QD ex q
 ·obtain⟨ws,QD,ex,r,q,kk,_⟩:=h;obtain⟨t,ht,hq⟩:=hbody cdv A outer s H ws QD ex E hr q;exact⟨_,ht.ps,H,_,_,DOk.begin r N,hq,λv H' d xs sm rp qd=>kk v H' d xs sm rp qd⟩
theorem Fun.dokPX{x qual:Str}{st:Stmt}{f:Addr}{fd:FuncData}{N ps:List Str}{k:Nat}{sp:zcw}(F:Fun K x qual st f fd)(S:zm N ps (zb st))(len:∀ws Q ex,sp ws Q ex->ws.length=ps.length)
  (hbody:∀(cdv:Value) (A:Around) (outer:List Env) (s:Shared) (H:Hp) (ws:List W) (Q:D->List D->Prop) (ex:EX) (E:XK),Room k (A.deeper (envOfC qual (zb st) s.heap.objs.size f cdv))->sp ws Q ex->(∀c od H',XE K H ex c od H'->E c od H') ->
   ∃t,zl9 (y6 (CXk P w) P w K mg base N qual (zb st) f cdv A outer s H E) (zy st) t/\t Q (xi N ws)):FnOk P w K mg base (CXk P w) (k+1) f fd ps (vg K sp):=by
 obtain⟨oc,od,kV,doc,pm,an,cdv,ct,osl,rfl,lk,hcd⟩:=F.ex;refine zh7 lk hcd S (λvs H Q E ⟨ws,QD,ex,r,q,_⟩=>by rw[<-r.length];exact len ws QD ex q) λA outer s H vs Q E hr ⟨ws,QD,ex,r,q,kk,ke⟩=>?_;obtain⟨t,ht,hq⟩:=hbody cdv A outer s H ws QD ex E hr q ke;refine⟨λD σ H1=>∃σD QD',DOk K H H1 σD σ/\t QD' σD/\∀v H' d xs,Same H H'->zho K H H' d xs v->QD' d xs->D.rt v H',?_,?_⟩
 ·intro pins s1 σ H1 D I ⟨σD,QD',ok,q1,k2⟩;refine thn (ht.run pins s1 σ H1 σD QD' I ok q1) λfl s' z=>?_;obtain⟨u,v,σ',H',d,xs,rfl,J,rv,sm,rp,qd⟩:=z;exact⟨v,σ',H',J,rv,k2 v H' d xs sm rp qd⟩
 ·exact⟨_,_,DOk.begin r N,hq,λv H' d xs sm rp qd=>kk v H' d xs sm rp qd⟩
end
section
variable {P:Program}{w:World}{K:PySem.W.Frag}{mg:Str->Option Value}{base:Heap}{N:List Str}{qual:Str}{scope:Scope}{f:Addr}{cd:Value}{A:Around}{outer:List Env}{s:Shared}{H:Hp}{E:XK}
def zj8(b:Bool)(ex:EX)(sp:zcw)(t:DTP):DTS:=λDn σ=>t σ λws=>sp ws (λd xs=>Dn.rt (if b=true then .new xs else .val d)) ex
theorem zd3(b:Bool){ex:EX}{k k':Nat}{x:Str}{ps:List Str}{sp:zcw}{t:DTP}{e:Expr}{es:List Expr}{j}{np cpos ip sp' pos:Pos}(hE:∀c od H',XE K H ex c od H'->E c od H')(C:y0 P w K mg base k x ps (vg K sp))(hr:Room k' (A.deeper (envOfC qual scope s.heap.objs.size f cd)))
  (hg:Gl (y6 (CXk P w) P w K mg base N qual scope f cd A outer s H E) x) (ha:DPs (y6 (CXk P w) P w K mg base N qual scope f cd A outer s H E) (e::es) t) (hk:k<=k':=by decide) (hdb:(x ==("__debug__" : Str))=false:=by decide)
  (he:starEach (e::es) (envOfC qual scope s.heap.objs.size f cd)=(false,eval e (envOfC qual scope s.heap.objs.size f cd))::starEach es (envOfC qual scope s.heap.objs.size f cd):=by rfl)
  (hpl:(backTo cpos (starEach es (envOfC qual scope s.heap.objs.size f cd))).any (·.1)=false:=by rfl) :
  DSX (y6 (CXk P w) P w K mg base N qual scope f cd A outer s H E) (.Return (some (.Subscript (.Call (.Name x np) (e::es) [] cpos) (.Constant (.int (if b=true then 1 else 0)) j ip) sp')) pos) (zj8 b ex sp t):=⟨λpins s1 σ H1 σD Dn I ok q=>by
 obtain⟨f0,fd0,F,bb,kp,m⟩:=C;refine thn (we (wx ix_tup (h8 (X:=y6 (CXk P w) P w K mg base N qual scope f cd A outer s H E) (CX:=CXk P w) (E:=XE K H ex) F (hr.mono hk) hg m kp bb .nil (zmt hE) ha.pa hdb he hpl) yq (λ_ _=>rfl)) pins s1 σ H1 { nx:=λ_ _=>False,rt:=λv H'=>∃r,Same H H'/\ko K H H' r v/\Dn.rt r } I ?_) λfl s2 z=>?_
 ·refine⟨H,σD,_,ok,q,λvs H2 ws s2 r1 q1=>?_⟩;show vg K sp (vs ++ []) H2 _ _;rw[List.append_nil];refine⟨ws,_,_,r1,q1,λv H' d xs s3 rp qd=>?_,λc od H' z=>?_⟩
  ·obtain⟨p,a,u,vs',rfl,h1,h2,n,h3,h4⟩:=rp;have sm:Same H H':=(ok.same.trans s2).trans s3
   cases b with
   |true=>exact⟨p,_,1,.ref a,rfl,rfl,h1,rfl,.new xs,sm,⟨a,vs',rfl,(ok.same.trans s2).free n,h3,h4⟩,qd⟩
   |false=>exact⟨p,_,0,u,rfl,rfl,h1,rfl,.val d,sm,h2,qd⟩
  ·obtain⟨y,D,e1,e2,e3,e4,e5⟩:=z;exact⟨y,D,e1,e2,(ok.same.trans s2).trans e3,e4,e5⟩
 ·cases fl with
  |next=>obtain⟨_,_,_,z⟩:=z;exact z.elim
  |brk=>obtain⟨_,_,_,z⟩:=z;exact False.elim z
  |cont=>obtain⟨_,_,_,z⟩:=z;exact False.elim z
  |ret u=>obtain⟨v,σ',H',J,rv,r,sm,rp,qd⟩:=z;exact⟨v,σ',H',r,J,rv,sm,rp,qd⟩⟩
def zj9(i:Nat)(ex:EX)(sp:zbh)(t:DTP):DTS:=λDn σ=>t σ λws=>sp ws (λr=>Dn.nx (σ.set i (some (match r with
 |.val d=>.val d
 |.new xs=>.own (.lst xs))))) ex
theorem zka{i:Nat}{y:Str}{ex:EX}{k k':Nat}{x:Str}{ps:List Str}{sp:zbh}{t:DTP}{e:Expr}{es:List Expr}{np cpos pos' pos:Pos}(hN:N.Nodup)(hi:N[i]?=some y)(hx:Loc scope y)(hE:∀c od H',XE K H ex c od H'->E c od H')(C:y0 P w K mg base k x ps (xr K sp))(hr:Room k' (A.deeper (envOfC qual scope s.heap.objs.size f cd)))
  (hg:Gl (y6 (CXk P w) P w K mg base N qual scope f cd A outer s H E) x) (ha:DPs (y6 (CXk P w) P w K mg base N qual scope f cd A outer s H E) (e::es) t) (hk:k<=k':=by decide) (hdb:(x ==("__debug__" : Str))=false:=by decide)
  (he:starEach (e::es) (envOfC qual scope s.heap.objs.size f cd)=(false,eval e (envOfC qual scope s.heap.objs.size f cd))::starEach es (envOfC qual scope s.heap.objs.size f cd):=by rfl)
  (hpl:(backTo cpos (starEach es (envOfC qual scope s.heap.objs.size f cd))).any (·.1)=false:=by rfl) (hs:swapsWith (.Call (.Name x np) (e::es) [] cpos) (some (.Name y pos')) pos.line (envOfC qual scope s.heap.objs.size f cd)=pure false:=by rfl)
  (hf:(y6 (CXk P w) P w K mg base N qual scope f cd A outer s H E).fn y=true\/scope.names.lookup y=some .local:=by first|exact .inl rfl|exact .inr rfl|assumption) :
  DSX (y6 (CXk P w) P w K mg base N qual scope f cd A outer s H E) (.Assign [.Name y pos'] (.Call (.Name x np) (e::es) [] cpos) pos) (zj9 i ex sp t):=⟨λpins s1 σ H1 σD Dn I ok q=>by
 obtain⟨f0,fd0,F,bb,kp,m⟩:=C;refine thn (je (X:=y6 (CXk P w) P w K mg base N qual scope f cd A outer s H E) hN hi hx (h8 (X:=y6 (CXk P w) P w K mg base N qual scope f cd A outer s H E) (CX:=CXk P w) (E:=XE K H ex) F (hr.mono hk) hg m kp bb .nil (zmt hE) ha.pa hdb he hpl) hs hf pins s1 σ H1 { nx:=λσ' H'=>∃σD',DOk K H H' σD' σ'/\Pers H1 H'/\Dn.nx σD',rt:=λ_ _=>False } I ?_) λfl s2 z=>?_
 ·refine⟨H,σD,_,ok,q,λvs H2 ws s2 r1 q1=>?_⟩;show xr K sp (vs ++ []) H2 _ _;rw[List.append_nil];refine⟨ws,_,_,r1,q1,λv H' r s3 rp qd=>?_,λc od H' z=>?_⟩
  ·cases r with
   |val d=>exact⟨_,((ok.after s2).after s3).setV rp i,(s2.trans s3).pers,qd⟩
   |new xs=>
    obtain⟨a,vs',rfl,n,e1,r2⟩:=rp;exact⟨_,DOk.setO (ok.after s2) s3 n e1 r2 i,(s2.trans s3).pers,qd⟩
  ·obtain⟨y',D,e1,e2,e3,e4,e5⟩:=z;exact⟨y',D,e1,e2,(ok.same.trans s2).trans e3,e4,e5⟩
 ·cases fl with
  |next=>obtain⟨σ',H',J,σD',ok',pr,q'⟩:=z;exact⟨σ',H',σD',J,ok',pr,q'⟩
  |brk=>obtain⟨_,_,_,z⟩:=z;exact False.elim z
  |cont=>obtain⟨_,_,_,z⟩:=z;exact False.elim z
  |ret u=>obtain⟨_,_,_,_,_,z⟩:=z;exact z.elim⟩
end
def zkb:Ret->Mx
 |.val d=>.v d
 |.new xs=>.l xs
def lrD(F:D->(Mx->Prop)->Prop):List D->(List Mx->Prop)->Prop
 |[],Q=>Q []
 |d::ds,Q=>F d λm=>lrD F ds λms=>Q (m::ms)
def lrF(g:DTG)(t:DTP)(sp:DSp)(σ0:DSt):D->(Mx->Prop)->Prop:=λd Q=>g d σ0 λσ2=>t σ2 λws=>sp ws λr=>Q (zkb r)
def zfn(j k:Nat)(js:List Nat)(sp:DSp)(ti:DTF)(g:DTG)(t:DTP):DTS:=λDn σ=>ti σ λds=>ds.length<=sizeLine/\lrD (lrF g t sp (ya k js σ)) ds λms=>Dn.nx (σ.set j (some (.own (.mix ms))))
section
variable {X:Cx}{e:Expr}{es:List Expr}{t:DTP}{pos:Pos}{c:Str}{j k:Nat}{ps:List Str}{sp:DSp}
theorem zkc{g:DTG}{js is:List Nat}{σ:St}{σD:DSt}{H₀ H1:Hp}{J:It}{ds:List D}{QD:List Mx->Prop}{Dd:Addr}{gL:TG}(ok:DOk X.K H₀ H1 σD σ)(it:ItOk X.K Same J H1 ds)(hz:ds.length<=sizeLine)
  (hg:∀d v σ' H' Q (σ0:DSt),DOk X.K H1 H' σ0 σ'->Rep X.K H' d v->g d σ0 Q->gL v σ' H' (λσ2 H2=>H2=H'/\σ2.length=σ'.length/\(∀j,j∉is->σ2[j]?=σ'[j]?)/\∃σD2,DOk X.K H1 H' σD2 σ2/\Q σD2))
  (mono:∀v σ' H' (Q Q':St->Hp->Prop),(∀σ2 H2,Q σ2 H2->Q' σ2 H2)->gL v σ' H' Q->gL v σ' H' Q')
  (his:∀j∈is,j<k) (hn:H1 Dd=none) (q:lrD (lrF g t sp (ya k js σD)) ds QD) :
  zaa J Dd gL zia (zfz (zx X.K sp) [] E0 (cnP X.K t)) (yc k js σ) H1 (λv H'=>∃a us bs ms,v=.ref a/\Same H1 H'/\H' a=some (.lst us)/\MxR X.K H' ms us bs/\(a::bs).Nodup/\(∀b∈a::bs,H1 b=none)/\QD ms):=by
 have sub:∀{Q1:List Mx->Prop}{i:Nat}{d:D},ds[i]?=some d->lrD (lrF g t sp (ya k js σD)) (ds.drop i) Q1=lrF g t sp (ya k js σD) d (λo=>lrD (lrF g t sp (ya k js σD)) (ds.drop (i+1)) λys=>Q1 (o::ys)):=λ{Q1 i d} e=>by
  obtain⟨hi,e'⟩:=List.getElem?_eq_some_iff.mp e;rw[List.drop_eq_getElem_cons hi,e'];rfl
 refine⟨λi m σ' H'=>m=ds.length-i/\i<=ds.length/\Same H1 H'/\σ'.length=(yc k js σ).length/\(∀j,k<=j->σ'[j]?=(yc k js σ)[j]?)/\∃acc us bs,H' Dd=some (.lst us)/\MxR X.K H' acc us bs/\(Dd::bs).Nodup/\(∀b∈bs,H1 b=none)/\acc.length<=i/\lrD (lrF g t sp (ya k js σD)) (ds.drop i) (λys=>QD (acc++ys)),
  ⟨ds.length,rfl,Nat.zero_le _,zt hn _,rfl,λ_ _=>rfl,[],[],[],ze,trivial,List.nodup_cons.mpr ⟨List.not_mem_nil,List.nodup_nil⟩,(λb hb=>nomatch hb),Nat.le_refl _,q⟩,?_⟩
 intro i m σ' H' zz;refine gg λG zk=>?_;obtain⟨zem,hi,sm,hl,fr,acc,us,bs,eD,ra,nd,frs,la,q1⟩:=zz;refine zk ?_;clear zk;subst zem;have ok1:DOk X.K H1 H' (ya k js σD) σ':=by
  refine DOk.keepN ((ok.block k js).after sm) hl λj=>?_
  by_cases hj:j<k
  ·left;unfold ya;rw[List.getElem?_append_left (by simpa using hj),List.getElem?_replicate,if_pos hj]
  ·right;exact fr j (by omega)
 by_cases hlt:i<ds.length
 ·have e:ds[i]?=some ds[i]:=by simp[hlt]
  obtain⟨go,yl⟩:=it.go H' i ds[i] sm e;refine .inr ⟨go,λx H2 y=>?_⟩;obtain⟨s2,r2⟩:=yl x H2 y;rw[sub e]at q1;refine mono _ _ _ _ _ (λσ2 H3 z=>?_) (hg ds[i] x σ' H2 _ _ (ok1.after s2) r2 q1);obtain⟨rfl,l2,f2,σD2,ok2,q2⟩:=z;have fr2:∀j,k<=j->σ2[j]?=(yc k js σ)[j]?:=λj hj=>by rw[f2 j (λz=>absurd (his j z) (by omega)),fr j hj]
  dsimp only[zia];rw[if_pos rfl];refine⟨H1,σD2,_,ok2,q2,λvs H4 ws s4 r4 q4=>?_⟩;show zx X.K sp (vs ++ []) H4 _ _;rw[List.append_nil];refine⟨ws,_,r4,q4,λv H5 r s5 rp qd=>?_⟩;have s15:Same H1 H5:=((sm.trans s2).trans s4).trans s5;have s05:Same H' H5:=(s2.trans s4).trans s5;have eD5:=s05 _ _ eD;obtain⟨nD,nb⟩:=List.nodup_cons.mp nd;have pu:∀v,Pers H5 (upd H5 Dd (.lst (us ++ [v]))):=λv=>xc eD5 rfl;have m5:MxR X.K H5 acc us bs:=ra.keep s05.pers λc hc u hu=>s05 _ _ hu;have ml:=m5.len
  cases r with
  |val d=>
   have m6:MxR X.K (upd H5 Dd (.lst (us ++ [v]))) (acc ++ [.v d]) (us ++ [v]) (bs ++ []):=((show MxR X.K H5 [.v d] [v] [] from⟨rp,trivial⟩).app m5).keep (pu v) λc hc u hu=>by
    rw[List.append_nil]at hc;rw[zd]
    ·exact hu
    ·rintro rfl;exact nD hc
   rw[List.append_nil]at m6;exact⟨us,eD5,by omega,ds.length-(i+1),by omega,rfl,hlt,Same.but s15 hn But.write,l2.trans hl,fr2,acc ++ [.v d],us ++ [v],bs,ze,m6,nd,frs,by rw[List.length_append,List.length_singleton];omega,by simpa[zkb]using qd⟩
  |new xs=>
   obtain⟨y,ws',rfl,n5,e5,r5⟩:=rp;have eD4:=(s2.trans s4) _ _ eD;have nyD:y≠Dd:=λz=>by rw[z,eD4]at n5;cases n5
   have nyb:y∉bs:=λz=>by
    obtain⟨vs0,e0⟩:=ra.live y z;rw[(s2.trans s4) _ _ e0]at n5
    cases n5
   have ny1:H1 y=none:=((sm.trans s2).trans s4).free n5;have m6:MxR X.K (upd H5 Dd (.lst (us ++ [.ref y]))) (acc ++ [.l xs]) (us ++ [.ref y]) (bs ++ [y]):=((show MxR X.K H5 [.l xs] [.ref y] [y] from⟨rfl,⟨ws',e5,r5⟩,trivial⟩).app m5).keep (pu (.ref y)) λc hc u hu=>by
    rw[zd]
    ·exact hu
    ·rintro rfl;rcases List.mem_append.mp hc with z|z
     ·exact nD z
     ·exact nyD (List.mem_singleton.mp z).symm
   refine⟨us,eD5,by omega,ds.length-(i+1),by omega,rfl,hlt,Same.but s15 hn But.write,l2.trans hl,fr2,acc ++ [.l xs],us ++ [.ref y],bs ++ [y],ze,m6,?_,?_,by rw[List.length_append,List.length_singleton];omega,by simpa[zkb]using qd⟩
   ·refine List.nodup_cons.mpr ⟨λz=>?_,List.nodup_append.mpr ⟨nb,List.nodup_cons.mpr ⟨List.not_mem_nil,List.nodup_nil⟩,λc hc d hd z=>?_⟩⟩
    ·rcases List.mem_append.mp z with z|z
     ·exact nD z
     ·exact nyD (List.mem_singleton.mp z).symm
    ·rw[z,List.mem_singleton.mp hd]at hc;exact nyb hc
   ·intro c hc;rcases List.mem_append.mp hc with z|z
    ·exact frs c z
    ·rw[List.mem_singleton.mp z];exact ny1
 ·have e:i=ds.length:=by omega
  subst e;rw[List.drop_length]at q1;refine .inl ⟨it.stop H' sm,Dd,us,bs,acc,rfl,sm,eD,ra,nd,λb hb=>?_,?_⟩
  ·rcases List.mem_cons.mp hb with rfl|hb
   ·exact hn
   ·exact frs b hb
  ·have:lrD (lrF g t sp (ya k js σD)) [] (λys=>QD (acc++ys)):=q1;simpa[lrD]using this
theorem zkd{tg iter:Expr}{e:Expr}{scope:Scope}{cl:List (Str×Addr)}{N' capt:List Str}{js is:List Nat}{ti:DTF}{g:DTG}{y:Str}{pos' p cpos lpos:Pos}{n n':Nat}(hN:X.N.Nodup)(hi':X.N[j]?=some y)(hx:Loc X.env.scope y)(hc:X.calm=true)(L:zic X scope cl N' capt k js)
  (C:w6 X.prog X.w X.K X.mg X.base n c ps (zx X.K sp)) (hr:Room n' X.A)
  (hi:DIw X tg iter ti) (hg:∀C fp s2 H2,DG (yy X N' scope cl C fp s2 H2) tg is g) (ha:∀C fp s2 H2,DPs (yy X N' scope cl C fp s2 H2) (e::es) t) (hgl:∀C fp s2 H2,Gl (yy X N' scope cl C fp s2 H2) c:=by intro _ _ _ _;rfl) (hk:n<=n':=by decide) (hdb:(c ==("__debug__" : Str))=false:=by decide)
  (he:∀C fp s2 H2,starEach (e::es) (yy X N' scope cl C fp s2 H2).env=(false,eval e (yy X N' scope cl C fp s2 H2).env)::starEach es (yy X N' scope cl C fp s2 H2).env:=by intro _ _ _ _;rfl) (hpl:∀C fp s2 H2,(backTo cpos (starEach es (yy X N' scope cl C fp s2 H2).env)).any (·.1)=false:=by intro _ _ _ _;rfl)
  (his:∀j∈is,j<k:=by decide) (hsf:∀x,foldedSetIterable iter X.env x=pure x:=by intro _;rfl)
  (hs:swapsWith (.ListComp (.Call (.Name c p) (e::es) [] cpos) [⟨tg,iter,[],0⟩] scope lpos) (some (.Name y pos')) pos.line X.env=pure true:=by rfl) (hf:X.fn y=true\/X.env.scope.names.lookup y=some .local:=by first|exact .inl rfl|exact .inr rfl|assumption) :
  DS X (.Assign [.Name y pos'] (.ListComp (.Call (.Name c p) (e::es) [] cpos) [⟨tg,iter,[],0⟩] scope lpos) pos) (zfn j k js sp ti g t):=by
 obtain⟨f,fd,F,b,kp,m⟩:=C;refine DS.of (zid (g:=cnG X.K is g) hN hi' hx hc L hi.pi (λC fp s2 H2=>(hg C fp s2 H2).pg) (λ_ _ _ _=>zf3) (λCc fp s2 H2=>h8 (X:=yy X N' scope cl Cc fp s2 H2) (t:=cnP X.K t) F (hr.mono hk) (hgl Cc fp s2 H2) m kp b .nil zf2 (ha Cc fp s2 H2).pa hdb (he Cc fp s2 H2) (hpl Cc fp s2 H2)) hs hsf hf) λσ H H₀ σD Dn ok q=>⟨H₀,σD,_,ok,q,λJ H1 ds s1 it q1 Dd hn=>?_⟩
 have z:=zkc (X:=X) (sp:=sp) (t:=t) (k:=k) (js:=js) (is:=is) (gL:=cnG X.K is g) (Dd:=Dd) (ok.after s1) it q1.1 (λd v σ' H' Q σ0 ok0 r0 q0=>⟨H1,σ0,d,Q,ok0,r0,q0,λσ2 σD2 l2 ok2 f2 q2=>⟨rfl,l2,f2,σD2,ok2,q2⟩⟩)
  (λv σ' H' Q Q' m zq7=>by obtain⟨a,b,c,d,e1,e2,e3,e4⟩:=zq7;exact⟨a,b,c,d,e1,e2,e3,λσ2 σD2 l o f q=>m _ _ (e4 σ2 σD2 l o f q)⟩) his hn q1.2
 obtain⟨W,w0,turn⟩:=z;refine⟨W,w0,λi m σ' H' w=>?_⟩;rcases turn i m σ' H' w with⟨st,a,us,bs,ms,ee,sm,eD,rO,nd,fr,qd⟩|h
 ·cases ee;exact .inl ⟨st,_,DOk.setF (ok.after s1) sm (f:=Dd::bs) (o:=.mix ms) (v:=.ref Dd) fr nd ⟨Dd,us,bs,rfl,rfl,eD,rO⟩ j,(s1.trans sm).pers,qd⟩
 ·exact .inr h
def mxD:Mx->D
 |.v d=>d
 |.l xs=>.list xs
def zgn(i:Nat):DTE:=λσ Q=>match σ[i]? with
 |some (some (.own (.mix ms)))=>PyData.canLayAll0 (ms.map mxD)=true/\Q (.list (ms.map mxD))
 |_=>False
theorem zpi{K:PySem.W.Frag}{H:Hp}{ms:List Mx}{us:List V}{bs:List Addr}(h:MxR K H ms us bs):PyData.canLayAll0 (ms.map mxD)=true->RepNs K H (ms.map mxD) us :=
 h.ind (P:=λms us _=>PyData.canLayAll0 (ms.map mxD)=true->RepNs K H (ms.map mxD) us) (λ_=>.nil) (λd ms u us bs r _ j c=>by
  simp only[List.map_cons,mxD,PyData.canLayAll0,Bool.and_eq_true]at c;exact .cons (r.now (zjb c.1) c.1) (j c.2)) λxs ms u us b bs e l _ j c=>by
  obtain⟨vs,e1,r⟩:=l;simp only[List.map_cons,mxD,PyData.canLayAll0,Bool.and_eq_true]at c;subst e;have c1:PyData.canLayAll0 xs=true:=by simpa[PyData.canLay0]using c.1
  exact .cons (.lst (.inl e1) (r.now c1)) (j c.2)
theorem zpj(i:Nat){x:Str}{pos:Pos}(hN:X.N[i]?=some x:=by rfl)(hv:Vis X.env.scope x:=by first|exact Or.inl rfl|exact Or.inr (Or.inl rfl)|exact Or.inr (Or.inr rfl))(hd:(x ==("__debug__" : Str))=false:=by decide)
  (hcd:(x ==("__classdict__" : Str))=false:=by decide):DN X (.Name x pos) (zgn i):=by
 refine DN.of (yg (i:=i) hN hv hd hcd) λσ H H₀ σD QD ok q=>?_;unfold zgn at q
 split at q
 ·next ms eo=>
  obtain⟨v,f,e1,rO,nf,fr,_⟩:=ok.focus eo;obtain⟨a,us,bs,rfl,rfl,e,r⟩:=rO;exact⟨.ref a,e1,.list (ms.map mxD),Same.refl _,.lst (.inl e) (zpi r q.1),q.2⟩
 ·exact q.elim
end
end L2
namespace My
open PySem L2 PyProof.Rows
def top(i:Nat):Stmt:=PySem.Challenge.pw_knockpurse_k32_rows_of_deeds.main.body.getD i (.Pass ⟨0,0,0,0⟩)
abbrev k9:Stmt:=top 16
abbrev x4:Stmt:=top 13
theorem za0:zm ["purse", "coins", "many"] ["purse", "coins", "many"] (zb x4):=⟨rfl,rfl,rfl,by decide +kernel,rfl,by decide +kernel,by decide +kernel⟩
abbrev jt:Stmt:=top 14
theorem zfo:zm ["purse", "coins"] ["purse", "coins"] (zb jt):=⟨rfl,rfl,rfl,by decide +kernel,rfl,by decide +kernel,by decide +kernel⟩
abbrev qy:Stmt:=top 15
theorem zd4:zm ["purse", "coins", "sign"] ["purse", "coins", "sign"] (zb qy):=⟨rfl,rfl,rfl,by decide +kernel,rfl,by decide +kernel,by decide +kernel⟩
abbrev wt:Stmt:=top 17
theorem zbk:zm ["thing"] ["thing"] (zb wt):=⟨rfl,rfl,rfl,by decide +kernel,rfl,by decide +kernel,by decide +kernel⟩
abbrev ju:Stmt:=top 18
theorem sc_gone_by:zm ["purse", "row", "kept", "unpaid", "place", "sign"] ["purse", "row"] (zb ju):=⟨rfl,rfl,rfl,by decide +kernel,rfl,by decide +kernel,by decide +kernel⟩
abbrev x5:Stmt:=top 19
theorem za1:zm ["purse", "row"] ["purse", "row"] (zb x5):=⟨rfl,rfl,rfl,by decide +kernel,rfl,by decide +kernel,by decide +kernel⟩
abbrev xu:Stmt:=top 20
theorem j5:zm ["purse", "row"] ["purse", "row"] (zb xu):=⟨rfl,rfl,rfl,by decide +kernel,rfl,by decide +kernel,by decide +kernel⟩
abbrev jv:Stmt:=top 21
theorem sc_paid_in:zm ["purse", "row", "unpaid"] ["purse", "row"] (zb jv):=⟨rfl,rfl,rfl,by decide +kernel,rfl,by decide +kernel,by decide +kernel⟩
abbrev vh:Stmt:=top 22
theorem zcy:zm ["purse", "row"] ["purse", "row"] (zb vh):=⟨rfl,rfl,rfl,by decide +kernel,rfl,by decide +kernel,by decide +kernel⟩
abbrev xv:Stmt:=top 24
theorem j6:zm ["_law_script", "_law_k"] ["_law_script", "_law_k"] (zb xv):=⟨rfl,rfl,rfl,by decide +kernel,rfl,by decide +kernel,by decide +kernel⟩
abbrev vi:Stmt:=top 25
theorem sc__law_next:zm ["_law_seed"] ["_law_seed"] (zb vi):=⟨rfl,rfl,rfl,by decide +kernel,rfl,by decide +kernel,by decide +kernel⟩
abbrev x6:Stmt:=top 26
theorem sc__law_pen_of:zm ["_law_cell", "_law_left"] ["_law_cell"] (zb x6):=⟨rfl,rfl,rfl,by decide +kernel,rfl,by decide +kernel,by decide +kernel⟩
abbrev vj:Stmt:=top 27
theorem sc__law_draw:zm ["_law_pen", "_law_many", "_law_found"] ["_law_pen", "_law_many"] (zb vj):=⟨rfl,rfl,rfl,by decide +kernel,rfl,by decide +kernel,by decide +kernel⟩
abbrev wu:Stmt:=top 28
theorem sc__law_purse:zm ["_law_pen", "_law_way", "_law_part", "_law_price", "_law_cap", "_law_purse_here"] ["_law_pen"] (zb wu):=⟨rfl,rfl,rfl,by decide +kernel,rfl,by decide +kernel,by decide +kernel⟩
abbrev qz:Stmt:=top 29
theorem sc__law_odd:zm ["_law_pen", "_law_some"] ["_law_pen"] (zb qz):=⟨rfl,rfl,rfl,by decide +kernel,rfl,by decide +kernel,by decide +kernel⟩
abbrev xw:Stmt:=top 30
theorem sc__law_refusal:zm ["_law_e", "_law_marks", "_law_word"] ["_law_e"] (zb xw):=⟨rfl,rfl,rfl,by decide +kernel,rfl,by decide +kernel,by decide +kernel⟩
abbrev q9:Stmt:=top 31
theorem sc__law_row:zm ["_law_pen", "_law_many", "_law_share"] ["_law_pen"] (zb q9):=⟨rfl,rfl,rfl,by decide +kernel,rfl,by decide +kernel,by decide +kernel⟩
abbrev vk:Stmt:=top 32
theorem sc__law_bent:zm ["_law_pen", "_law_row_here", "_law_signs", "_law_sign", "_law_at", "_law_way", "_law_some"] ["_law_pen", "_law_row_here"] (zb vk):=⟨rfl,rfl,rfl,by decide +kernel,rfl,by decide +kernel,by decide +kernel⟩
abbrev x8:Stmt:=top 33
theorem sc__law_walked:zm ["_law_purse_here", "_law_row_here", "_law_coins", "_law_unpaid", "_law_place", "_law_sign"] ["_law_purse_here", "_law_row_here"] (zb x8):=⟨rfl,rfl,rfl,by decide +kernel,rfl,by decide +kernel,by decide +kernel⟩
abbrev vm:Stmt:=top 34
theorem sc__law_told:zm ["_law_way", "_law_purse_here", "_law_row_here", "_law_e"] ["_law_way", "_law_purse_here", "_law_row_here"] (zb vm):=⟨rfl,rfl,rfl,by decide +kernel,rfl,by decide +kernel,by decide +kernel⟩
abbrev x9:Stmt:=top 35
theorem za2:zm ["_law_thing"] ["_law_thing"] (zb x9):=⟨rfl,rfl,rfl,by decide +kernel,rfl,by decide +kernel,by decide +kernel⟩
abbrev zke:Stmt:=top 36
theorem sc_law:zm ["_law_script", "_law_cell", "_law_pen", "_law_purse_here", "_law_row_here", "_law_long", "_law_thing", "_law_due", "_law_turn", "_law_found"] ["_law_script"] (zb zke):=⟨rfl,rfl,rfl,by decide +kernel,rfl,by decide +kernel,by decide +kernel⟩
abbrev z0:Stmt:=h9 k9 0
theorem ka:zm ["self", "purse"] ["self", "purse"] (zb z0):=⟨rfl,rfl,rfl,by decide +kernel,rfl,by decide +kernel,by decide +kernel⟩
abbrev yw:Stmt:=h9 k9 1
theorem zbl:zm ["self"] ["self"] (zb yw):=⟨rfl,rfl,rfl,by decide +kernel,rfl,by decide +kernel,by decide +kernel⟩
abbrev yi:Stmt:=h9 k9 2
theorem sc_Purse__knock:zm ["self", "paid"] ["self"] (zb yi):=⟨rfl,rfl,rfl,by decide +kernel,rfl,by decide +kernel,by decide +kernel⟩
abbrev yk:Stmt:=h9 k9 3
theorem za3:zm ["self"] ["self"] (zb yk):=⟨rfl,rfl,rfl,by decide +kernel,rfl,by decide +kernel,by decide +kernel⟩
structure Blt(mg:Str->Option Value):Prop where
 len:mg "len" = none
 range:mg "range" = none
 enumerate:mg "enumerate" = none
 min:mg "min" = none
 max:mg "max" = none
 repr:mg "repr" = none
 isinstance:mg "isinstance" = none
 all:mg "all" = none
 intT:mg "int" = none
 listT:mg "list" = none
 strT:mg "str" = none
 ValueError:mg "ValueError" = none
 LookupError:mg "LookupError" = none
 TypeError:mg "TypeError" = none
 ArithmeticError:mg "ArithmeticError" = none
 RuntimeError:mg "RuntimeError" = none
structure Xf(K:PySem.W.Frag)(mg:Str->Option Value):Prop where
 r_NoStep:∃C,mg "NoStep" = some (.ref C)/\PySem.W.nsIn K mainGlobals "NoStep" = some (some (.ref C))/\PySem.W.excIn K C [.type "ValueError",.type "Exception",.type "BaseException",.type "object"] "ValueError.__new__" = true
 kn:∃CK,mg "KnockError" = some (.ref CK)/\∀y∈(["NoStep"]:List Str),∀D,PySem.W.nsIn K mainGlobals y=some (some (.ref D))->zlr K CK D
 i_NoBeat:∃D,mg "NoBeat" = some (.ref D)/\∀nm b,qe (["NoStep"]:List Str) "NoBeat" nm=some b->∀C,PySem.W.nsIn K mainGlobals nm=some (some (.ref C))->XIs K C/\PySem.W.kitOne K (.ref C) (.ref D)=some b
 i_NoStep:∃D,mg "NoStep" = some (.ref D)/\∀nm b,qe (["NoStep"]:List Str) "NoStep" nm=some b->∀C,PySem.W.nsIn K mainGlobals nm=some (some (.ref C))->XIs K C/\PySem.W.kitOne K (.ref C) (.ref D)=some b
 i_NoNumber:∃D,mg "NoNumber" = some (.ref D)/\∀nm b,qe (["NoStep"]:List Str) "NoNumber" nm=some b->∀C,PySem.W.nsIn K mainGlobals nm=some (some (.ref C))->XIs K C/\PySem.W.kitOne K (.ref C) (.ref D)=some b
 i_NoLine:∃D,mg "NoLine" = some (.ref D)/\∀nm b,qe (["NoStep"]:List Str) "NoLine" nm=some b->∀C,PySem.W.nsIn K mainGlobals nm=some (some (.ref C))->XIs K C/\PySem.W.kitOne K (.ref C) (.ref D)=some b
 i_NoStory:∃D,mg "NoStory" = some (.ref D)/\∀nm b,qe (["NoStep"]:List Str) "NoStory" nm=some b->∀C,PySem.W.nsIn K mainGlobals nm=some (some (.ref C))->XIs K C/\PySem.W.kitOne K (.ref C) (.ref D)=some b
 i_NoText:∃D,mg "NoText" = some (.ref D)/\∀nm b,qe (["NoStep"]:List Str) "NoText" nm=some b->∀C,PySem.W.nsIn K mainGlobals nm=some (some (.ref C))->XIs K C/\PySem.W.kitOne K (.ref C) (.ref D)=some b
 i_TooGreat:∃D,mg "TooGreat" = some (.ref D)/\∀nm b,qe (["NoStep"]:List Str) "TooGreat" nm=some b->∀C,PySem.W.nsIn K mainGlobals nm=some (some (.ref C))->XIs K C/\PySem.W.kitOne K (.ref C) (.ref D)=some b
 b_ValueError:∀nm b,zhi (["NoStep"]:List Str) true nm=some b->∀C,PySem.W.nsIn K mainGlobals nm=some (some (.ref C))->XIs K C/\PySem.W.kitOne K (.ref C) (.type "ValueError")=some b
 t_0:∀nm b,zhi (["NoStep"]:List Str) false nm=some b->∀C,PySem.W.nsIn K mainGlobals nm=some (some (.ref C))->XIs K C/\PySem.W.kitAny K (.ref C) [.type "LookupError",.type "TypeError",.type "ArithmeticError",.type "RuntimeError"]=some b
def xg(K:PySem.W.Frag)(x:Str)(st:Stmt):Prop:=∃f fd,PySem.W.nsIn K mainGlobals x=some (some (.ref f))/\Fun K x x st f fd
theorem fn_at{K:PySem.W.Frag}{x:Str}{st:Stmt}{f:Addr}{od an:Option Addr}{sl:Array (Option Value)}{oc kV dc pm cd ct:Value}(a:PySem.W.nsIn K mainGlobals x=some (some (.ref f)))(l:K.lookup f=some ⟨oc,od,.func (PySem.W.fnOf x x (yu st) (zy st) (zb st) .none kV dc pm an cd ct),sl⟩)(c:PySem.W.codeIn K cd x=true)(k:PySem.W.keepIn K (.ref f)=true):xg K x st:=⟨f,_,a,zak l c k⟩
theorem zhp{K:PySem.W.Frag}{x:Str}{st:Stmt}{f:Addr}{fd:FuncData}{s:Shared}{v:Value}{ps:List (Str×Value)}(F:Fun K x x st f fd)(h:∀(kV doc pm:Value) (an:Option Addr) (cdv ct:Value),bindArgs (PySem.W.fnOf x x (yu st) (zy st) (zb st) .none kV doc pm an cdv ct) ⟨[v],[]⟩=pure ps):BindsTo s fd ⟨[v],[]⟩ ps:=by
 obtain⟨oc,od,kV,doc,pm,an,cdv,ct,osl,rfl,lk,hcd⟩:=F.ex;exact .of_eq (h kV doc pm an cdv ct)
abbrev Cal(P:Program)(w:World)(K:PySem.W.Frag)(mg:Str->Option Value)(base:Heap):=w6 P w K mg base
local macro_rules|`(tactic| walk_at "dr")=>`(tactic| dsimp only[↓zd2,↓zj6,↓zfm,↓zj8,↓zj9,↓zcv,↓zkb,↓zfn,↓lrF,↓zgn,↓mxD,↓zjm,↓zo3,↓zo4,↓zdy,↓zgk,↓zgl,↓zjo,↓zo9,↓zpa,↓zlz,↓zgm,↓zff,↓k8,↓qv,↓zfe,↓zo5,↓zct,↓O.bare,↓O.with,↓zfc,↓zhd,↓zcs,↓zjj,↓zjk,↓ziz,↓zga,↓zoj,↓zi1,↓zi2,↓zok,↓zol,↓zja,↓zi5,↓Ret.w,↓zi7,↓zi8,↓zi9,↓zfk,↓zj2,↓zfi,↓zju,↓dIf,↓zon,↓zoi,↓zi0,↓zlj,↓zlg,↓zk5,↓zk6,↓zgc,↓dC,↓zdi,↓zig,↓zdj,↓zih,↓zk7,↓znn,↓zno,↓dFz,↓dTB,↓onB,↓znp,↓dOr,↓znq,↓zns,↓zij,↓zik,↓znt,↓dOp,↓dUn,↓znw,↓gII,↓zdk,↓zn0,↓zn1,↓zn2,↓zn3,↓gEq,↓gNe,↓gIn,↓dCB,↓zn5,↓zn6,↓zn7,↓zn8,↓gIx,↓zin,↓zcl,↓zcm,↓zac,↓zcn,↓ziq,↓zco,↓ze1,↓zis,↓ze2,↓zit,↓zi4,↓dLC,↓lcF,↓ziu,↓zix,↓ze3,↓Ret.d,↓xi,↓ya,↓zdl,↓clr,↓znl,↓dIs,↓isD,↓zfa,↓zn9,List.map_cons,List.map_nil,List.length_cons,List.length_nil,List.replicate_succ,List.replicate_zero,List.cons_append,List.nil_append,List.append_nil,List.set_cons_zero,List.set_cons_succ,List.getElem?_cons_zero,List.getElem?_cons_succ,Option.join_some,Nat.reduceAdd,Nat.reduceSub,Nat.zero_add,Bool.not_true,Bool.not_false])
local macro_rules|`(tactic| walk_at "ds")=>`(tactic| first|simp only[↓zd2,↓zj6,↓zfm,↓zj8,↓zj9,↓zcv,↓zkb,↓zfn,↓lrF,↓zgn,↓mxD,↓zjm,↓zo3,↓zo4,↓zdy,↓zgk,↓zgl,↓zjo,↓zo9,↓zpa,↓zlz,↓zgm,↓zff,↓k8,↓qv,↓zfe,↓zo5,↓zct,↓O.bare,↓O.with,↓zfc,↓zhd,↓zcs,↓zjj,↓zjk,↓ziz,↓zga,↓zoj,↓zi1,↓zi2,↓zok,↓zol,↓zja,↓zi5,↓Ret.w,↓zi7,↓zi8,↓zi9,↓zfk,↓zj2,↓zfi,↓zju,↓dIf,↓zon,↓zoi,↓zi0,↓zlj,↓zlg,↓zk5,↓zk6,↓zgc,↓dC,↓zdi,↓zig,↓zdj,↓zih,↓zk7,↓znn,↓zno,↓dFz,↓dTB,↓onB,↓znp,↓dOr,↓znq,↓zns,↓zij,↓zik,↓znt,↓dOp,↓dUn,↓znw,↓gII,↓zdk,↓zn0,↓zn1,↓zn2,↓zn3,↓gEq,↓gNe,↓gIn,↓dCB,↓zn5,↓zn6,↓zn7,↓zn8,↓gIx,↓zin,↓zcl,↓zcm,↓zac,↓zcn,↓ziq,↓zco,↓ze1,↓zis,↓ze2,↓zit,↓zi4,↓dLC,↓lcF,↓ziu,↓zix,↓ze3,↓Ret.d,↓xi,↓ya,↓zdl,↓clr,↓znl,↓dIs,↓isD,↓zfa,↓zn9,List.map_cons,List.map_nil,List.length_cons,List.length_nil,List.replicate_succ,List.replicate_zero,List.cons_append,List.nil_append,List.append_nil,List.set_cons_zero,List.set_cons_succ,List.getElem?_cons_zero,List.getElem?_cons_succ,Option.join_some,Nat.reduceAdd,Nat.reduceSub,Nat.zero_add,Bool.not_true,Bool.not_false,if_true,if_false,reduceIte,decide_eq_true_eq,Bool.not_eq_true',decide_eq_false_iff_not,true_and,and_true,Bool.false_eq_true,Bool.not_eq_eq_eq_not,eq_self,and_self,List.isEmpty_nil,List.isEmpty_cons,reduceCtorEq,sizeLine_eq,Nat.reduceLeDiff,Nat.zero_le]|skip)
section
variable {P:Program}{w:World}{K:PySem.W.Frag}{mg:Str->Option Value}{base:Heap}{f:Addr}{fd:FuncData}
def wy:DSp:=λws Q=>∃(ns:List Int) (k:Int),ws = [.scr ns,.val (.int k)]/\0<=k/\∀v:Int,Q (.val (.int v))
theorem j7(B:Blt mg)(F:Fun K "_law_cell_at" "_law_cell_at" xv f fd):FnOk P w K mg base CX0 1 f fd ["_law_script", "_law_k"] (zx K wy):=by
 refine F.dok j6 (λws Q h=>?_) (λcdv A outer s H ws Q E hr h=>?_)
 ·obtain⟨ns,k,rfl,_⟩:=h;rfl
 obtain⟨ns,k,rfl,h0,q⟩:=h;refine⟨_,(zh (xq (y7 zny (zf 1) (DE.dv (zg5 0 rfl B.len)) (yd _)) (zg (z7 (zio 0 (zq 1) (λ_ _=>rfl)))) yo) (zg (z7 zc))),?_⟩;walk_at "ds"
 split
 ·next c=>
  obtain⟨v,e,_⟩:=zet (xs:=ns) h0 c;exact⟨v,e,q v⟩
 ·exact q 0
def wv:DSp:=λws Q=>∃k:Int,ws = [.val (.int k)]/\∀v:Int,Q (.val (.int v))
theorem zcz(B:Blt mg)(F:Fun K "_law_next" "_law_next" vi f fd):FnOk P w K mg base CX0 1 f fd ["_law_seed"] (zx K wv):=by
 refine F.dok sc__law_next (λws Q h=>?_) (λcdv A outer s H ws Q E hr h=>?_)
 ·obtain⟨k,rfl,_⟩:=h;rfl
 obtain⟨k,rfl,q⟩:=h;refine⟨_,(zh (yn (i:=0) sc__law_next.nd rfl (Or.inl rfl) (zv zim (DE.dv (zv xa (zf 0) (DE.dv zc))) (DE.dv zc))) (zg (z7 (zv zim (DE.dv (zv xa (DE.dv (zv xa (DE.dv (zv zf6 (zf 0) (zf 0))) (DE.dv (zv zf6 (DE.dv zc) (zf 0))))) (DE.dv zc))) (DE.dv zc))))),?_⟩;walk_at "ds";have h1:0<=(k+7919) % 2147483647:=Int.emod_nonneg _ (by decide);have h2:(k+7919) % 2147483647<2147483647:=Int.emod_lt_of_pos _ (by decide);exact⟨by decide,.inl ⟨by omega,by omega⟩,.inl ⟨by omega,by omega⟩,by decide,q _⟩
def vn:DSp:=λws Q=>∃k:Int,ws = [.val (.int k)]/\∀a b c:Int,Q (.new [.int a,.int b,.int c])
theorem za4(B:Blt mg)(F:Fun K "_law_pen_of" "_law_pen_of" x6 f fd):FnOk P w K mg base CX0 1 f fd ["_law_cell"] (zx K vn):=by
 refine F.dok sc__law_pen_of (λws Q h=>?_) (λcdv A outer s H ws Q E hr h=>?_)
 ·obtain⟨k,rfl,_⟩:=h;rfl
 obtain⟨k,rfl,q⟩:=h;refine⟨_,(zh (yn (i:=1) sc__law_pen_of.nd rfl (Or.inl rfl) (yr (zqo rfl) rfl B.max boot_max (z6 (zf 0) (z6 (DE.dv (zv zb2 (DE.dv zc) (zf 0))) yv)))) (zg (zgb (ym (za (zq 1) (za (zb3 zmm rfl B.intT boot_int (z6 (DE.dv (zam zqm (zf 1) (DE.dv (zv zmj (DE.dv zc) (DE.dv zc))) (yd _))) yv)) (za (zv zim (zf 1) (DE.dv zc)) zi))))))),?_⟩;walk_at "ds";exact⟨⟨by decide,by decide,by decide⟩,by decide,q _ _ _⟩
def zkf:Sp:=λvs H Q _=>∃k:Int,vs = [.int k]/\∀(v:Int) H',Same H H'->Q (.int v) H'
theorem zpk{k:Nat}{x:Str}{ps:List Str}(C:Cal P w K mg base k x ps (zx K wv)):Cal P w K mg base k x ps zkf:=by
 obtain⟨f,fd,F,r⟩:=C;refine⟨f,fd,F.imp λvs H Q E h=>?_,r⟩;obtain⟨k,rfl,q⟩:=h;exact⟨[.val (.int k)],λr=>∃i:Int,r=.val (.int i),.cons (show Rep K H (.int k) _ from .int) .nil,⟨k,rfl,λv=>⟨v,rfl⟩⟩,λv H' r sm rp ⟨i,e⟩=>by subst e;cases (show Rep K H' (.int i) v from rp);exact q i H' sm⟩
theorem zc0(B:Blt mg)(F:Fun K "_law_draw" "_law_draw" vj f fd)(Cd:Cal P w K mg base 1 "_law_next" ["_law_seed"] (zx K wv)):FnOk P w K mg base CX0 2 f fd ["_law_pen", "_law_many"] (zx K yj):=by
 have C__law_next:=zpk Cd;refine zoo (F.ok sc__law_draw (λvs H Q E h=>?_) (λcdv A outer s H vs Q E hr h=>?_))
 ·obtain⟨p,m,rfl,_⟩:=h;rfl
 obtain⟨p,m,rfl,hm,hM,⟨a,b,c,hp⟩,q⟩:=h;refine⟨_,(ki (zpx (zqk (zm1 (zfx zhz (wx ix_list (pv 0) yq (λ_ _=>rfl)) yq (yd _)) (zkp (zfx zmf (wx ix_list (pv 0) yq (λ_ _=>rfl)) yq (yd _))))) (ki (je (i:=2) sc__law_draw.nd rfl (Or.inl rfl) (zda zei (wx ix_list (pv 0) yq (λ_ _=>rfl)) (pv 1))) (ki (zee (zda zdh (wx ix_list (pv 0) yq (λ_ _=>rfl)) (pv 1)) (zht (pv 0) yq zdf)) (zce (we (pv 2))))) zkq) (ki (zee (kl C__law_next hr rfl (zn (zda zhw (kl C__law_next hr rfl (zn (wx ix_list (pv 0) yq (λ_ _=>rfl)) ye)) yq) ye)) (zht (pv 0) yq zdf)) (zce (we (zda zei (zda zdh (wx ix_list (pv 0) yq (λ_ _=>rfl)) yq) (pv 1)))))),?_⟩;have hS:SqL K H p [.int a,.int b,.int c]:=SqL.of hp;refine⟨_,rfl,p,_,_,_,rfl,rfl,hS,rfl,rfl,_,rfl,?_⟩;refine zqe (λc1=>?_) (λc1=>?_)
 ·refine⟨_,rfl,p,_,_,_,rfl,rfl,hS,rfl,_,_,rfl,rfl,_,rfl,?_⟩;refine zqe (λc2=>?_) (λc2=>?_)
  ·refine⟨_,rfl,p,_,_,_,rfl,rfl,hS,rfl,_,rfl,_,_,rfl,rfl,hm,?_⟩;refine⟨_,rfl,p,_,_,_,rfl,rfl,hS,rfl,_,rfl,_,_,rfl,rfl,⟨hm,hM⟩,?_⟩;refine⟨_,rfl,p,_,_,_,rfl,rfl,hp,rfl,?_⟩;exact⟨_,rfl,q _ _ (Int.emod_nonneg _ (by omega)) (Int.emod_lt_of_pos _ hm) ⟨a / m,b,c,ze⟩ But.write⟩
  ·refine⟨_,rfl,p,_,_,_,rfl,rfl,hS,rfl,_,rfl,λv1 H1 s1=>⟨_,_,rfl,rfl,_,rfl,λv2 H2 s2=>⟨_,rfl,p,_,_,_,rfl,rfl,s2 _ _ (s1 _ _ hp),rfl,?_⟩⟩⟩;refine⟨_,rfl,p,_,_,_,rfl,rfl,SqL.of ze,rfl,_,_,rfl,rfl,⟨by decide,by decide⟩,_,rfl,_,_,rfl,rfl,hm,?_⟩;exact q _ _ (Int.emod_nonneg _ (by omega)) (Int.emod_lt_of_pos _ hm) ⟨a,b,v2,ze⟩ ((But.of_same (s1.trans s2)).trans But.write)
 ·refine zk2 ?_;refine⟨_,rfl,p,_,_,_,rfl,rfl,hS,rfl,_,rfl,λv1 H1 s1=>⟨_,_,rfl,rfl,_,rfl,λv2 H2 s2=>⟨_,rfl,p,_,_,_,rfl,rfl,s2 _ _ (s1 _ _ hp),rfl,?_⟩⟩⟩;refine⟨_,rfl,p,_,_,_,rfl,rfl,SqL.of ze,rfl,_,_,rfl,rfl,⟨by decide,by decide⟩,_,rfl,_,_,rfl,rfl,hm,?_⟩;exact q _ _ (Int.emod_nonneg _ (by omega)) (Int.emod_lt_of_pos _ hm) ⟨a,b,v2,ze⟩ ((But.of_same (s1.trans s2)).trans But.write)
def zc1:DSp:=λws Q=>∃ns:List Int,ws = [.scr ns]/\ns.length<=63/\Q (.val (.bool true))
structure qf(a p b f:Int):Prop where
 a0:0<=a
 a1:a<=1000
 p0:1<=p
 p1:p<=1000
 b0:0<=b
 b1:b<=10000
 f0:0<=f
 f1:f<=b
def pu(a p b f:Int):D:=.tuple [.int a,.int p,.int b,.int f]
def qj:DSp:=λws Q=>ws = [.pen]/\∀a p b f:Int,qf a p b f->Q (.val (pu a p b f))
theorem zbm(B:Blt mg)(F:Fun K "_law_purse" "_law_purse" wu f fd)(C__law_draw:Cal P w K mg base 2 "_law_draw" ["_law_pen", "_law_many"] (zx K yj)):FnOk P w K mg base CX0 3 f fd ["_law_pen"] (zx K qj):=by
 refine F.dok sc__law_purse (λws Q h=>?_) (λcdv A outer s H ws Q E hr h=>?_)
 ·obtain⟨rfl,_⟩:=h;rfl
 obtain⟨rfl,q⟩:=h;refine⟨_,(zh (yn (i:=1) sc__law_purse.nd rfl (Or.inl rfl) (zr C__law_draw hr rfl (zp 0 (yh zc zo zw)))) (zh (ze5 (yz (DE.dv (DF.de (ym (za (yf (za zc (za zc (za zc zi zw) zw) zw)) (za (yf (za zc (za zc (za zc zi zw) zw) zw)) (za (yf (za zc (za zc (za zc zi zw) zw) zw)) (za (yf (za zc (za zc (za zc zi zw) zw) zw)) zi zbf) zbf) zbf) zbf)))) (zq 1) (λ_ _=>rfl)) (zap (n:=3) rfl (yt (z9 (i:=2) sc__law_purse.nd rfl (Or.inl rfl)) (yt (z9 (i:=3) sc__law_purse.nd rfl (Or.inl rfl)) (yt (z9 (i:=4) sc__law_purse.nd rfl (Or.inl rfl)) km))))) (zh (yn (i:=5) sc__law_purse.nd rfl (Or.inl rfl) (yf (za (zr C__law_draw hr rfl (zp 0 (zp 2 zo))) (za (zv xa (DE.dv zc) (DE.dv (zr C__law_draw hr rfl (zp 0 (zp 3 zo))))) (za (zr C__law_draw hr rfl (zp 0 (zp 4 zo))) zi))))) (zg (z7 (zv xa (zf 5) (DE.dv (yf (za (yz (DE.dv (DF.de (ym (za zc (za (yz (zf 5) zc (λ_ _=>rfl)) (za (zr C__law_draw hr rfl (zp 0 (yh (zv xa (DE.dv (yz (zf 5) zc (λ_ _=>rfl))) (DE.dv zc)) zo))) zi)) zw)))) (zr C__law_draw hr rfl (zp 0 (yh zc zo zw))) (λ_ _=>rfl)) zi))))))))),?_⟩;walk_at "ds";refine wc (by first|decide|omega) (by first|decide|omega) λw lw hw=>?_;walk_at "ds";refine zgg (by omega) (by simp only[List.length_cons,List.length_nil];omega) λd hd=>?_;have hd':∃x y z:Int,d=.tuple [.int x,.int y,.int z]/\1<=x/\x<=1001/\1<=y/\y<=1000/\1<=z/\z<=10001:=by
  simp only[List.mem_cons,List.not_mem_nil,or_false]at hd;rcases hd with rfl|rfl|rfl|rfl <;> exact⟨_,_,_,rfl,by decide,by decide,by decide,by decide,by decide,by decide⟩
 obtain⟨x,y,z,rfl,x1,x2,y1,y2,z1,z2⟩:=hd';walk_at "ds";refine wc (by first|decide|omega) (by first|decide|omega) λa la ha=>?_;walk_at "ds";refine wc (by first|decide|omega) (by first|decide|omega) λp lp hp=>?_;walk_at "ds";refine wc (by first|decide|omega) (by first|decide|omega) λb lb hb=>?_;walk_at "ds";refine⟨_,rfl,_,rfl,?_⟩;walk_at "ds";refine wc (by first|decide|omega) (by first|decide|omega) λg lg hg=>?_;walk_at "ds";refine wc (by first|decide|omega) (by first|decide|omega) λi li hi=>?_;walk_at "ds";refine zmo (ns:=[0,b,g]) (lo:=0) (hi:=b) (by omega) (by simp only[List.length_cons,List.length_nil];omega) (by intro z hz;simp only[List.mem_cons,List.not_mem_nil,or_false]at hz;omega) λf lf hf=>?_;walk_at "ds";exact q a (1+p) b f ⟨by omega,by omega,by omega,by omega,by omega,by omega,by omega,by omega⟩
theorem za5:(Str.ofString "a")=txL [97]:=by decide +kernel
theorem zd5:(Str.ofString "k")=txL [107]:=by decide +kernel
theorem zaf{l m:List Nat}(h:txL l=txL m):l=m:=by
 have:=congrArg (λx:Str=>x.cps.toList) h;simpa[txL]using this
theorem zd6(x y:Nat):(txL [x]=txL [y])=(x=y):=propext ⟨λh=>by simpa using zaf h,λh=>by rw[h]⟩
theorem zd7(l:List Nat):yx (txL l)=l.map λc=>PyData.str (txL [c]):=by unfold yx txL;simp
def Sg(l:List Nat):Prop:=∀x∈l,x=97\/x=107
theorem Sg.asc{l:List Nat}(h:Sg l):((txL l).cps.all λx=>decide (x<128))=true:=by
 rw[Array.all_eq_true'];intro x hx;rcases h x (by simpa[txL]using hx) with rfl|rfl <;> decide
def vo:DSp:=λws Q=>∃(a p b f x m:Int),ws = [.val (pu a p b f),.val (.int x),.val (.int m)]/\qf a p b f/\0<=x/\x<=10000/\0<=m/\m<=1000000000000/\Q (.val (.int (min (x+m * a) b)))
theorem za6(B:Blt mg)(F:Fun K "coins_asked" "coins_asked" x4 f fd):FnOk P w K mg base CX0 1 f fd ["purse", "coins", "many"] (zx K vo):=by
 refine F.dok za0 (λws Q h=>?_) (λcdv A outer s H ws Q E hr h=>?_)
 ·obtain⟨a,p,b,f,x,m,rfl,_⟩:=h;rfl
 obtain⟨a,p,b,f,x,m,rfl,o,hx,hx2,hm,hm2,q⟩:=h;simp only[pu];refine⟨_,(zg (z7 (yr (zqn rfl) rfl B.min boot_min (z6 (DE.dv (zv xa (zf 1) (DE.dv (zv zf6 (zf 2) (DE.dv (yz (zf 0) zc (λ_ _=>rfl))))))) (z6 (DE.dv (yz (zf 0) zc (λ_ _=>rfl))) yv))))),?_⟩;walk_at "ds";have:=o.a0;have:=o.a1;refine⟨_,rfl,?_⟩;walk_at "ds";refine⟨.inl ⟨by omega,by omega⟩,_,rfl,?_⟩;walk_at "ds";exact q
def kb:DSp:=λws Q=>∃(a p b f x:Int),ws = [.val (pu a p b f),.val (.int x)]/\Q (.val (.bool (decide (p<=x))))
theorem zfp(B:Blt mg)(F:Fun K "can_pay" "can_pay" jt f fd):FnOk P w K mg base CX0 1 f fd ["purse", "coins"] (zx K kb):=by
 refine F.dok zfo (λws Q h=>?_) (λcdv A outer s H ws Q E hr h=>?_)
 ·obtain⟨a,p,b,f,x,rfl,_⟩:=h;rfl
 obtain⟨a,p,b,f,x,rfl,q⟩:=h;simp only[pu];refine⟨_,(zg (z7 (zam zqm (zf 1) (DE.dv (yz (zf 0) zc (λ_ _=>rfl))) (yd _)))),?_⟩;walk_at "ds";refine⟨_,rfl,?_⟩;walk_at "ds";exact q
def vr(a p b:Int)(x:Nat)(c:Int):Int:=if x=97 then min (c+1 * a) b else if p<=c then c-p else c
theorem zc2{a p b f:Int}(o:qf a p b f){x:Nat}{c:Int}(h:0<=c/\c<=b):0<=vr a p b x c/\vr a p b x c<=b:=by
 have:=o.a0;have:=o.p0;unfold vr
 split
 ·omega
 ·split <;> omega
def vt:DSp:=λws Q=>∃(a p b f c:Int) (x:Nat),ws = [.val (pu a p b f),.val (.int c),.val (.str (txL [x]))]/\qf a p b f/\0<=c/\c<=b/\Q (.val (.int (vr a p b x c)))
theorem zd8(B:Blt mg)(F:Fun K "coins_by" "coins_by" qy f fd){t_ASK:Tok}(G_ASK:mg "ASK" = some (.str "a" t_ASK))(C_coins_asked:Cal P w K mg base 1 "coins_asked" ["purse", "coins", "many"] (zx K vo))(C_can_pay:Cal P w K mg base 1 "can_pay" ["purse", "coins"] (zx K kb)):FnOk P w K mg base CX0 2 f fd ["purse", "coins", "sign"] (zx K vt):=by
 refine F.dok zd4 (λws Q h=>?_) (λcdv A outer s H ws Q E hr h=>?_)
 ·obtain⟨a,p,b,f,c,x,rfl,_⟩:=h;rfl
 obtain⟨a,p,b,f,c,x,rfl,o,h0,h1,q⟩:=h;refine⟨_,(zh (xq (y7 (zlc hr) (zf 2) (DE.dv (x3 (d:=.str "a") (v:=.str "a") rfl G_ASK ⟨_,rfl⟩ (λ_=>.str))) (yd _)) (zg (z7 (zr C_coins_asked hr rfl (zp 0 (zp 1 (yh zc zo zw)))))) yo) (zh (xq (qt (DE.dv (zr C_can_pay hr rfl (zp 0 (zp 1 zo))))) (zg (z7 (zv zb2 (zf 1) (DE.dv (yz (zf 0) zc (λ_ _=>rfl)))))) yo) (zg (z7 (zq 1))))),?_⟩;walk_at "ds";have:=o.b1;simp only[za5,zd6];unfold vr at q
 by_cases z:x=97
 ·rw[if_pos z]at q ⊢;exact⟨a,p,b,f,c,1,rfl,o,h0,by omega,by omega,by omega,q⟩
 ·rw[if_neg z]at q ⊢;refine⟨a,p,b,f,c,rfl,?_⟩;simp only[pu];walk_at "ds"
  by_cases z2:p<=c
  ·simp only[z2,decide_true,if_true]at q ⊢;refine⟨_,rfl,?_⟩;walk_at "ds";exact q
  ·simp only[z2,decide_false,if_false]at q ⊢
   first
    |exact q
    |(simp only[Bool.false_eq_true,if_false];exact q)
def kc(a p b f c:Int):O:=.ins "Purse" [("purse",pu a p b f),("coins",.int c)]
def xx:xk:=λwp o wq Q=>∃a p b f:Int,wp = []/\o=.ins "Purse" []/\wq = [.val (pu a p b f)]/\Q .none (kc a p b f f)
theorem kh(B:Blt mg)(F:Fun K "__init__" "Purse.__init__" z0 f fd){A_Purse:Addr}(I_Purse:zbi K mg "Purse" A_Purse ["purse", "coins"]):FnOk P w K mg base CX0 1 f fd ["self", "purse"] (qi K xx):=by
 refine F.dokG ka (λwp o wq Q h=>?_) (λcdv A outer s H a wp o wq Q E hr h=>?_)
 ·obtain⟨a,p,b,f,rfl,rfl,rfl,_⟩:=h;rfl
 obtain⟨a,p,b,f,rfl,rfl,rfl,q⟩:=h;have ne:¬ ((Str.ofString "purse")=(Str.ofString "coins")):=by decide +kernel
 simp only[pu]at q ⊢;refine⟨_,(jp (zaw (zae 0 I_Purse (.head _) (zq 1))) (k7 (zaw (zae 0 I_Purse (.tail _ (.head _)) (yz (zf 1) zc (λ_ _=>rfl)))))),?_⟩;walk_at "ds";refine⟨by decide,_,rfl,by decide,_,rfl,?_⟩;rw[if_neg ne];exact q
theorem ja{x y:D}:List.lookup (Str.ofString "coins") [((Str.ofString "purse"),x),((Str.ofString "coins"),y)]=some y:=by
 rw[List.lookup_cons,show((Str.ofString "coins") ==(Str.ofString "purse"))=false by decide +kernel,List.lookup_cons,show((Str.ofString "coins") ==(Str.ofString "coins"))=true by decide +kernel]
theorem za7{x:D}{r:List (Str×D)}:List.lookup (Str.ofString "purse") (((Str.ofString "purse"),x)::r)=some x:=by
 rw[List.lookup_cons,show((Str.ofString "purse") ==(Str.ofString "purse"))=true by decide +kernel]
theorem zc3{m:Str}{x y:D}(h1:(m ==(Str.ofString "purse"))=false)(h2:(m ==(Str.ofString "coins"))=false):List.lookup m [((Str.ofString "purse"),x),((Str.ofString "coins"),y)]=none:=by
 rw[List.lookup_cons,h1,List.lookup_cons,h2];rfl
def qk:xk:=λwp o wq Q=>∃a p b f c:Int,wp = []/\o=kc a p b f c/\wq = []/\qf a p b f/\0<=c/\c<=b/\Q .none (kc a p b f (vr a p b 97 c))
theorem zbn(B:Blt mg)(F:Fun K "ask" "Purse.ask" yw f fd){t_ASK:Tok}(G_ASK:mg "ASK" = some (.str "a" t_ASK)){A_Purse:Addr}(I_Purse:zbi K mg "Purse" A_Purse ["purse", "coins"])(C_coins_by:Cal P w K mg base 2 "coins_by" ["purse", "coins", "sign"] (zx K vt)):FnOk P w K mg base CX0 3 f fd ["self"] (qi K qk):=by
 refine F.dokG zbl (λwp o wq Q h=>?_) (λcdv A outer s H a wp o wq Q E hr h=>?_)
 ·obtain⟨a,p,b,f,c,rfl,rfl,rfl,_⟩:=h;rfl
 obtain⟨a,p,b,f,c,rfl,rfl,rfl,o,h0,h1,q⟩:=h;simp only[kc]at q ⊢;refine⟨_,(k7 (zaw (zae 0 I_Purse (.tail _ (.head _)) (zr C_coins_by hr rfl (yh (wo 0 I_Purse (.head _)) (yh (wo 0 I_Purse (.tail _ (.head _))) (yh (x3 (d:=.str "a") (v:=.str "a") rfl G_ASK ⟨_,rfl⟩ (λ_=>.str)) zo))))))),?_⟩;walk_at "ds";refine⟨_,za7,_,ja,a,p,b,f,c,97,by rw[za5],o,h0,h1,?_⟩;walk_at "ds";refine⟨by decide,_,rfl,?_⟩;rw[if_neg (by decide +kernel)];exact q
def wz:xk:=λwp o wq Q=>∃a p b f c:Int,wp = []/\o=kc a p b f c/\wq = []/\qf a p b f/\0<=c/\c<=b/\Q (.bool (decide (p<=c))) (kc a p b f (vr a p b 107 c))
theorem j8(B:Blt mg)(F:Fun K "knock" "Purse.knock" yi f fd){t_KNOCK:Tok}(G_KNOCK:mg "KNOCK" = some (.str "k" t_KNOCK)){A_Purse:Addr}(I_Purse:zbi K mg "Purse" A_Purse ["purse", "coins"])(C_can_pay:Cal P w K mg base 1 "can_pay" ["purse", "coins"] (zx K kb))(C_coins_by:Cal P w K mg base 2 "coins_by" ["purse", "coins", "sign"] (zx K vt)):FnOk P w K mg base CX0 3 f fd ["self"] (qi K wz):=by
 refine F.dokG sc_Purse__knock (λwp o wq Q h=>?_) (λcdv A outer s H a wp o wq Q E hr h=>?_)
 ·obtain⟨a,p,b,f,c,rfl,rfl,rfl,_⟩:=h;rfl
 obtain⟨a,p,b,f,c,rfl,rfl,rfl,o,h0,h1,q⟩:=h;simp only[kc]at q ⊢;refine⟨_,(jp (zaw (yn (i:=1) sc_Purse__knock.nd rfl (Or.inl rfl) (zr C_can_pay hr rfl (yh (wo 0 I_Purse (.head _)) (yh (wo 0 I_Purse (.tail _ (.head _))) zo))))) (jp (zaw (zae 0 I_Purse (.tail _ (.head _)) (zr C_coins_by hr rfl (yh (wo 0 I_Purse (.head _)) (yh (wo 0 I_Purse (.tail _ (.head _))) (yh (x3 (d:=.str "k") (v:=.str "k") rfl G_KNOCK ⟨_,rfl⟩ (λ_=>.str)) zo)))))) (k7 (zgi (zq 1))))),?_⟩;walk_at "ds";refine⟨_,za7,_,ja,a,p,b,f,c,rfl,?_⟩;walk_at "ds";refine⟨_,za7,_,ja,a,p,b,f,c,107,by rw[zd5],o,h0,h1,?_⟩;walk_at "ds";refine⟨by decide,_,rfl,?_⟩;rw[if_neg (by decide +kernel)];exact q
def vv:xk:=λwp o wq Q=>∃a p b f c:Int,wp = []/\o=kc a p b f c/\wq = []/\Q (.int c) (kc a p b f c)
theorem za8(B:Blt mg)(F:Fun K "held" "Purse.held" yk f fd){A_Purse:Addr}(I_Purse:zbi K mg "Purse" A_Purse ["purse", "coins"]):FnOk P w K mg base CX0 1 f fd ["self"] (qi K vv):=by
 refine F.dokG za3 (λwp o wq Q h=>?_) (λcdv A outer s H a wp o wq Q E hr h=>?_)
 ·obtain⟨a,p,b,f,c,rfl,rfl,rfl,_⟩:=h;rfl
 obtain⟨a,p,b,f,c,rfl,rfl,rfl,q⟩:=h;simp only[kc]at q ⊢;refine⟨_,(k7 (zgi (wo 0 I_Purse (.tail _ (.head _))))),?_⟩;walk_at "ds";exact⟨_,ja,_,rfl,q⟩
def gn(a p b:Int):List Nat->Nat->Int->List Int->Int×List Int
 |[],_,c,u=>(c,u)
 |x::r,i,c,u=>gn a p b r (i+1) (vr a p b x c) (if x=97 then u else if p<=c then u else u ++ [(i:Int)])
theorem zkg{t:DTS}{u:zcx}{Q:D->List D->Prop}{σ:DSt}(M:DSt->Prop)(h1:∀N:DSt->Prop,(∀σ',M σ'->N σ')->t { nx:=N,rt:=λ_=>False } σ)(h2:∀σ',M σ'->u Q σ'):zd2 t u Q σ:=h1 _ h2
def za9:zcw:=λws Q ex=>∃(a p b f:Int) (l:List Nat),ws = [.val (pu a p b f),.val (.str (txL l))]/\qf a p b f/\Sg l/\l.length<=1000000/\Q (.int (gn a p b l 0 f []).1) ((gn a p b l 0 f []).2.map PyData.int)
theorem zfq(B:Blt mg)(F:Fun K "gone_by" "gone_by" ju f fd){t_ASK:Tok}(G_ASK:mg "ASK" = some (.str "a" t_ASK)){A_Purse:Addr}(I_Purse:zbi K mg "Purse" A_Purse ["purse", "coins"])(C_Purse____init__:MkC P w K mg base 1 A_Purse ["self", "purse"] xx)(C_Purse__ask:zfj P w K mg base 3 A_Purse "ask" ["self"] qk)(C_Purse__knock:zfj P w K mg base 3 A_Purse "knock" ["self"] wz)(C_Purse__held:zfj P w K mg base 1 A_Purse "held" ["self"] vv):FnOk P w K mg base CX0 4 f fd ["purse", "row"] (vg K za9):=by
 refine F.dokP sc_gone_by (λws Q ex h=>?_) (λcdv A outer s H ws Q ex E hr h=>?_)
 ·obtain⟨a,p,b,f,l,rfl,_⟩:=h;rfl
 obtain⟨a,p,b,f,l,rfl,o,sg,hl,q⟩:=h;refine⟨_,(zaz (zjy (j:=2) sc_gone_by.nd rfl (Or.inl rfl) I_Purse C_Purse____init__ hr rfl (zp 0 zo)) (zaz (zlh (i:=3) sc_gone_by.nd rfl (Or.inl rfl) (ym zi)) (zaz (zao PassesOwn.never rfl (zd0 rfl B.enumerate (za (zq 1) zi)) (zap (n:=2) rfl (yt (z9 (i:=4) sc_gone_by.nd rfl (Or.inl rfl)) (yt (z9 (i:=5) sc_gone_by.nd rfl (Or.inl rfl)) km))) (zg (xq (y7 (zlc hr) (zf 5) (DE.dv (x3 (d:=.str "a") (v:=.str "a") rfl G_ASK ⟨_,rfl⟩ (λ_=>.str))) (yd _)) (zg (zjn (jr (i:=2) I_Purse C_Purse__ask hr))) (zg (zhm (jr (i:=2) I_Purse C_Purse__knock hr) (zg (zb6 3 (zq 4))) yo))))) (zma 3 (jr (i:=2) I_Purse C_Purse__held hr))))),?_⟩;refine zkg (λσ=>σ = [some (.val (pu a p b f)),some (.val (.str (txL l))),some (.own (kc a p b f f)),none,none,none]) (λN hN=>?_) ?_
 ·walk_at "ds";refine⟨a,p,b,f,rfl,rfl,rfl,rfl,?_⟩;exact hN _ rfl
 rintro σ rfl;walk_at "ds";refine⟨sg.asc,?_⟩;rw[zd7];refine vc (λds σ=>∃(m:List Nat) (i:Nat) (c:Int) (u:List Int) (u4 u5:Option W),ds=va i (m.map λc=>PyData.str (txL [c]))/\Sg m/\i+m.length=l.length/\u.length<=i/\(0<=c/\c<=b)/\gn a p b m i c u=gn a p b l 0 f []/\σ = [some (.val (pu a p b f)),some (.val (.str (txL l))),some (.own (kc a p b f c)),some (.own (.lst (u.map PyData.int))),u4,u5]) ?_ ?_ ⟨l,0,f,[],none,none,rfl,sg,by omega,by simp,⟨o.f0,o.f1⟩,rfl,rfl⟩
 ·rintro d ds σ N ⟨m,i,c,u,u4,u5,e,sm,hi,hu,hc,hg,rfl⟩ k
  cases m with
  |nil=>cases e
  |cons x m=>
   cases e;have next:=zc2 o (x:=x) hc;rw[List.length_cons]at hi;have sm':Sg m:=λy hy=>sm y (List.mem_cons_of_mem _ hy);walk_at "ds";simp only[za5,zd6]
   by_cases z:x=97
   ·subst z;rw[if_pos rfl];simp only[kc];walk_at "ds";refine⟨zc3 (by decide +kernel) (by decide +kernel),rfl,rfl,a,p,b,f,c,rfl,rfl,rfl,o,hc.1,hc.2,?_⟩;refine k _ ⟨m,i+1,_,u,_,_,rfl,sm',by omega,by omega,next,?_,rfl⟩;rw[<-hg];simp only[gn,if_true]
   ·rw[if_neg z];have x7:x=107:=(sm x List.mem_cons_self).resolve_left z;subst x7;simp only[kc];walk_at "ds";refine⟨zc3 (by decide +kernel) (by decide +kernel),rfl,rfl,a,p,b,f,c,rfl,rfl,rfl,o,hc.1,hc.2,?_⟩;walk_at "ds"
    by_cases z2:p<=c
    ·simp only[z2,decide_true,if_true];refine k _ ⟨m,i+1,_,u,_,_,rfl,sm',by omega,by omega,next,?_,rfl⟩;rw[<-hg];simp only[gn,z2,if_true,if_neg z]
    ·simp only[z2,decide_false,Bool.false_eq_true,if_false];refine⟨by rw[List.length_map];omega,k _ ⟨m,i+1,_,u ++ [(i:Int)],_,_,rfl,sm',by omega,by simp;omega,next,?_,(by rw[List.map_append];rfl)⟩⟩;rw[<-hg];simp only[gn,z2,if_false,if_neg z]
 ·rintro σ ⟨m,i,c,u,u4,u5,e,sm,hi,hu,hc,hg,rfl⟩
  cases m with
  |cons x m=>cases e
  |nil=>
   simp only[kc];walk_at "ds";refine⟨zc3 (by decide +kernel) (by decide +kernel),rfl,rfl,a,p,b,f,c,rfl,rfl,rfl,?_⟩;rw[<-hg]at q;exact q
def sgB(l:List Nat):Bool:=l.all λx=>decide (x=97) || decide (x=107)
theorem sgB_iff{l:List Nat}:sgB l=true↔Sg l:=by
 unfold sgB Sg;rw[List.all_eq_true];constructor
 ·intro h x hx;simpa using h x hx
 ·intro h x hx;simpa using h x hx
def wa(m:Nat):D->Bool
 |.str x=>sgB x.cps.toList && decide (x.length<=m)
 |_=>false
theorem zkh{x:Str}(h:(x.cps.all (· < 128))=true):Lay (.str x):=by
 unfold Lay SeqAt.shaped;have:PyData.strOk x=true:=by
  unfold PyData.strOk;rw[Array.all_eq_true']at h ⊢;intro c hc;have:=h c hc;simp at this ⊢;omega
 simp[PyData.canLay0,PyData.depth,this]
theorem zpl:Lay (.tuple [.str "a",.str "k"]):=show SeqAt.shaped _=true by decide +kernel
theorem zra(x:Str):inD (.str x) [.str "a",.str "k"]=(decide (x=txL [97]) || decide (x=txL [107])):=by
 have e:∀y:Str,PyData.eqv (.str y) (.str x)=decide (x=y):=λy=>by
  simp only[PyData.eqv]
  by_cases h:x=y
  ·subst h;simp
  ·rw[decide_eq_false h];exact beq_eq_false_iff_ne.mpr (Ne.symm h)
 simp only[inD,List.any_cons,List.any_nil,Bool.or_false,e,za5,zd5]
def ql:DSp:=λws Q=>∃d:D,ws = [.val d]/\(∀x,d=.str x->(x.cps.all (· < 128))=true/\x.length<=1000000)/\Q (.val (.bool (match d with|.str x=>sgB x.cps.toList|_=>false)))
theorem zbo(B:Blt mg)(F:Fun K "signs_good" "signs_good" wt f fd){t_ASK:Tok}(G_ASK:mg "ASK" = some (.str "a" t_ASK)){t_KNOCK:Tok}(G_KNOCK:mg "KNOCK" = some (.str "k" t_KNOCK)):FnOk P w K mg base CX0 1 f fd ["thing"] (zx K ql):=by
 refine F.dok zbk (λws Q h=>?_) (λcdv A outer s H ws Q E hr h=>?_)
 ·obtain⟨d,rfl,_⟩:=h;rfl
 obtain⟨d,rfl,hx,q⟩:=h;refine⟨_,(zg (z7 (znv (ze0 (n := "str") zmn rfl B.isinstance boot_isinstance (zf 0) rfl B.strT boot_str) (znu (yr (zqp rfl) rfl B.all boot_all (z6 (DE.dv (DF.de (ziw rfl (N':=["sign"]) (capt:=[]) (k:=1) (js:=[]) ⟨rfl,by decide,rfl,by decide,.nil,rfl,.nil,rfl,by decide⟩ (DI.w (zjp (zq 0))) (λ_ _ _ _=>(z9 (i:=0) (show List.Nodup (["sign"]:List Str) by decide +kernel) rfl (Or.inl rfl) (Or.inr rfl))) (λ_ _ _ _=>zf9) (λ_ _ _ _=>(zam (zrw hr) (zf 0) (DE.dv (yf (za (x3 (d:=.str "a") (v:=.str "a") rfl G_ASK ⟨_,rfl⟩ (λ_=>.str)) (za (x3 (d:=.str "k") (v:=.str "k") rfl G_KNOCK ⟨_,rfl⟩ (λ_=>.str)) zi)))) rfl))))) yv)))))),?_⟩
 cases d with
 |str x=>
  obtain⟨h1,h2⟩:=hx x rfl;walk_at "ds";refine⟨h1,by simp[yx,Str.length]at h2 ⊢;omega,?_⟩;unfold yx;refine zjc (λc:Nat=>PyData.str ⟨#[c]⟩) (λc=>.bool (decide (c=97) || decide (c=107))) (λc hm K hK=>?_) ⟨x.cps.toList.map λc=>decide (c=97) || decide (c=107),?_,?_⟩
  ·walk_at "ds"
   have hc:c<128:=by
    rw[Array.all_eq_true']at h1;simpa using h1 c (by simpa using hm)
   refine⟨zkh (by simpa using hc),zpl,?_⟩;rw[zra,show(⟨#[c]⟩:Str)=txL [c] from rfl];simp only[zd6];exact hK
  ·have:=zey (x.cps.toList.map λc=>decide (c=97) || decide (c=107));rw[List.map_map]at this;exact this
  ·rw[List.all_map];exact q
 |_=>walk_at "ds";exact q
theorem zki(x:Str):x=txL x.cps.toList:=by cases x;simp[txL]
def Tg(d:D):Prop:=∀x,d=.str x->(x.cps.all (· < 128))=true/\x.length<=1000
theorem zkj{x:Str}(h:wa 200 (.str x)=true):∃l:List Nat,x=txL l/\Sg l/\l.length<=200:=by
 simp only[wa,Bool.and_eq_true,decide_eq_true_eq]at h;exact⟨x.cps.toList,zki x,sgB_iff.mp h.1,by have:=h.2;simpa[Str.length]using this⟩
theorem zkk{l:List Nat}(h:Sg l)(hl:l.length<=200):wa 200 (.str (txL l))=true:=by
 simp only[wa,Bool.and_eq_true,decide_eq_true_eq];exact⟨sgB_iff.mpr (by simpa[txL]using h),by rw[wn];exact hl⟩
def xy:zcw:=λws Q ex=>∃(a p b f:Int) (d:D),ws = [.val (pu a p b f),.val d]/\qf a p b f/\Tg d/\(∀l,d=.str (txL l)->Sg l->l.length<=200->Q (.int (gn a p b l 0 f []).1) ((gn a p b l 0 f []).2.map PyData.int))/\(wa 200 d=false->ex ("NoStep",[]))
theorem zba(B:Blt mg)(F:Fun K "gone_by_row" "gone_by_row" x5 f fd){t_MOST_DEEDS:Tok}(G_MOST_DEEDS:mg "MOST_DEEDS" = some (.int 200 t_MOST_DEEDS))(XF:Xf K mg)(C_signs_good:Cal P w K mg base 1 "signs_good" ["thing"] (zx K ql))(C_gone_by:Cal P w K mg base 4 "gone_by" ["purse", "row"] (vg K za9)):FnOk P w K mg base (CXk P w) 5 f fd ["purse", "row"] (vg K xy):=by
 refine F.dokPX za1 (λws Q ex h=>?_) (λcdv A outer s H ws Q ex E hr h hE=>?_)
 ·obtain⟨a,p,b,f,d,rfl,_⟩:=h;rfl
 obtain⟨a,p,b,f,d,rfl,o,tg,q1,q2⟩:=h;obtain⟨cx_NoStep,mx_NoStep,nx_NoStep,qx_NoStep⟩:=XF.r_NoStep;refine⟨_,(zj5 (zo1 (DWt.dt (zii (zew (qt (DE.dv (zr C_signs_good hr rfl (zp 1 zo))))) (zev (y7 znz (DE.dv (yr jy rfl B.len PySem.boot_len (z6 (zf 1) yv))) (DE.dv (x3 (d:=.int 200) (v:=.int 200) rfl G_MOST_DEEDS ⟨_,rfl⟩ (λ_=>.int))) (yd _))))) (kz (zg9 hE hr.hd rfl mx_NoStep nx_NoStep qx_NoStep)) zjg) (zj7 C_gone_by hr rfl (zp 0 (zp 1 zo)))),?_⟩;walk_at "ds";refine⟨d,rfl,λx e=>by obtain⟨h1,h2⟩:=tg x e;exact⟨h1,by omega⟩,?_⟩
 cases d with
 |str x=>
  dsimp only
  cases c:sgB x.cps.toList with
  |false=>
   walk_at "ds";exact q2 (by simp[wa,c])
  |true=>
   walk_at "ds";have hx:=(tg x rfl).2;refine⟨by omega,?_⟩
   by_cases z:(200:Int)<x.length
   ·rw[if_pos z];refine q2 ?_;simp only[wa,c,Bool.true_and];exact decide_eq_false (by omega)
   ·rw[if_neg z];obtain⟨l,rfl,sg,hl⟩:=zkj (x:=x) (by simp only[wa,c,Bool.true_and];exact decide_eq_true (by omega));exact⟨a,p,b,f,l,rfl,o,sg,by omega,q1 l rfl sg hl⟩
 |_=>walk_at "ds";exact q2 rfl
def w4:zbh:=λws Q ex=>∃(a p b f:Int) (d:D),ws = [.val (pu a p b f),.val d]/\qf a p b f/\Tg d/\(∀l,d=.str (txL l)->Sg l->l.length<=200->Q (.val (.int (gn a p b l 0 f []).1)))/\(wa 200 d=false->ex ("NoStep",[]))
theorem j9(B:Blt mg)(F:Fun K "coins_behind" "coins_behind" xu f fd)(XF:Xf K mg)(C_gone_by_row:y0 P w K mg base 5 "gone_by_row" ["purse", "row"] (vg K xy)):FnOk P w K mg base (CXk P w) 6 f fd ["purse", "row"] (xr K w4):=by
 refine F.dokX j5 (λws Q ex h=>?_) (λcdv A outer s H ws Q ex E hr h hE=>?_)
 ·obtain⟨a,p,b,f,d,rfl,_⟩:=h;rfl
 obtain⟨a,p,b,f,d,rfl,o,tg,q1,q2⟩:=h;refine⟨_,(kz (zd3 false hE C_gone_by_row hr rfl (zp 0 (zp 1 zo)))),?_⟩;walk_at "ds";exact⟨a,p,b,f,d,rfl,o,tg,λl e sg hl=>q1 l e sg hl,q2⟩
def ww:zbh:=λws Q ex=>∃(a p b f:Int) (d:D),ws = [.val (pu a p b f),.val d]/\qf a p b f/\Tg d/\(∀l,d=.str (txL l)->Sg l->l.length<=200->Q (.new ((gn a p b l 0 f []).2.map PyData.int)))/\(wa 200 d=false->ex ("NoStep",[]))
theorem zc4(B:Blt mg)(F:Fun K "unpaid_at" "unpaid_at" vh f fd)(XF:Xf K mg)(C_gone_by_row:y0 P w K mg base 5 "gone_by_row" ["purse", "row"] (vg K xy)):FnOk P w K mg base (CXk P w) 6 f fd ["purse", "row"] (xr K ww):=by
 refine F.dokX zcy (λws Q ex h=>?_) (λcdv A outer s H ws Q ex E hr h hE=>?_)
 ·obtain⟨a,p,b,f,d,rfl,_⟩:=h;rfl
 obtain⟨a,p,b,f,d,rfl,o,tg,q1,q2⟩:=h;refine⟨_,(kz (zd3 true hE C_gone_by_row hr rfl (zp 0 (zp 1 zo)))),?_⟩;walk_at "ds";exact⟨a,p,b,f,d,rfl,o,tg,λl e sg hl=>q1 l e sg hl,q2⟩
def zbb:zbh:=λws Q ex=>∃(a p b f:Int) (d:D),ws = [.val (pu a p b f),.val d]/\qf a p b f/\Tg d/\(∀l,d=.str (txL l)->Sg l->l.length<=200->Q (.val (.int ((l.count 107:Int)-((gn a p b l 0 f []).2.length:Int)))))/\(wa 200 d=false->ex ("NoStep",[]))
theorem zfr(B:Blt mg)(F:Fun K "paid_in" "paid_in" jv f fd){t_KNOCK:Tok}(G_KNOCK:mg "KNOCK" = some (.str "k" t_KNOCK))(XF:Xf K mg)(C_unpaid_at:y0 P w K mg base 6 "unpaid_at" ["purse", "row"] (xr K ww)):FnOk P w K mg base (CXk P w) 7 f fd ["purse", "row"] (xr K zbb):=by
 refine F.dokX sc_paid_in (λws Q ex h=>?_) (λcdv A outer s H ws Q ex E hr h hE=>?_)
 ·obtain⟨a,p,b,f,d,rfl,_⟩:=h;rfl
 obtain⟨a,p,b,f,d,rfl,o,tg,q1,q2⟩:=h;refine⟨_,(zg8 (zka (i:=2) sc_paid_in.nd rfl (Or.inl rfl) hE C_unpaid_at hr rfl (zp 0 (zp 1 zo))) (kz (zo0 (z7 (zv zb2 (DE.dv (zjr PySem.F.slot_str_count PySem.F.type_str_count zca (λ_ _ _=>.int) (zq 1) (x3 (d:=.str "k") (v:=.str "k") rfl G_KNOCK ⟨_,rfl⟩ (λ_=>.str)))) (DE.dv (yr jy rfl B.len PySem.boot_len (z6 (zf 2) yv)))))))),?_⟩;walk_at "ds";refine⟨a,p,b,f,d,rfl,o,tg,λl e sg hl=>?_,q2⟩;subst e;walk_at "ds";rw[zd5,zjw,List.length_map];exact q1 l rfl sg hl
end
section
variable {P:Program}{w:World}{K:PySem.W.Frag}{mg:Str->Option Value}{base:Heap}{f:Addr}{fd:FuncData}
def zmu:Str->Str:=λc=>if c = "NoBeat" then "beat" else if c = "NoStep" then "step" else if c = "NoNumber" then "number" else if c = "NoLine" then "line" else if c = "NoStory" then "story" else if c = "NoText" then "text" else if c = "TooGreat" then "great" else ""
def xl:DSp:=λws Q=>∃c:Str,ws = [.exc (c,[])]/\c∈(["NoStep"]:List Str)/\Q (.val (.tuple [.str (zmu c)]))
theorem h7(B:Blt mg)(F:Fun K "_law_refusal" "_law_refusal" xw f fd)(XF:Xf K mg):FnH P w K mg base 1 f fd ["_law_e"] (zx K xl):=by
 refine F.dokH sc__law_refusal (λws Q h=>?_) (λcdv A outer s H ws Q hr h=>?_)
 ·obtain⟨c,rfl,_⟩:=h;rfl
 obtain⟨c,rfl,hc,q⟩:=h;obtain⟨cx_NoBeat,mx_NoBeat,kx_NoBeat⟩:=XF.i_NoBeat;obtain⟨cx_NoStep,mx_NoStep,kx_NoStep⟩:=XF.i_NoStep;obtain⟨cx_NoNumber,mx_NoNumber,kx_NoNumber⟩:=XF.i_NoNumber;obtain⟨cx_NoLine,mx_NoLine,kx_NoLine⟩:=XF.i_NoLine;obtain⟨cx_NoStory,mx_NoStory,kx_NoStory⟩:=XF.i_NoStory;obtain⟨cx_NoText,mx_NoText,kx_NoText⟩:=XF.i_NoText;obtain⟨cx_TooGreat,mx_TooGreat,kx_TooGreat⟩:=XF.i_TooGreat;have kt_0:=XF.t_0;refine⟨_,(zh (yn (i:=1) sc__law_refusal.nd rfl (Or.inl rfl) (DF.de (ym (za (ve 0 (c:=.ref cx_NoBeat) (cv:=.ref cx_NoBeat) (λ_ h=>h) kx_NoBeat rfl B.isinstance boot_isinstance (y9 (u:=.ref cx_NoBeat) rfl mx_NoBeat rfl)) (za (ve 0 (c:=.ref cx_NoStep) (cv:=.ref cx_NoStep) (λ_ h=>h) kx_NoStep rfl B.isinstance boot_isinstance (y9 (u:=.ref cx_NoStep) rfl mx_NoStep rfl)) (za (ve 0 (c:=.ref cx_NoNumber) (cv:=.ref cx_NoNumber) (λ_ h=>h) kx_NoNumber rfl B.isinstance boot_isinstance (y9 (u:=.ref cx_NoNumber) rfl mx_NoNumber rfl)) (za (ve 0 (c:=.ref cx_NoLine) (cv:=.ref cx_NoLine) (λ_ h=>h) kx_NoLine rfl B.isinstance boot_isinstance (y9 (u:=.ref cx_NoLine) rfl mx_NoLine rfl)) zi))))))) (zh (yn (i:=1) sc__law_refusal.nd rfl (Or.inl rfl) (zv xa (zf 1) (DE.dv (DF.de (ym (za (ve 0 (c:=.ref cx_NoStory) (cv:=.ref cx_NoStory) (λ_ h=>h) kx_NoStory rfl B.isinstance boot_isinstance (y9 (u:=.ref cx_NoStory) rfl mx_NoStory rfl)) (za (ve 0 (c:=.ref cx_NoText) (cv:=.ref cx_NoText) (λ_ h=>h) kx_NoText rfl B.isinstance boot_isinstance (y9 (u:=.ref cx_NoText) rfl mx_NoText rfl)) (za (ve 0 (c:=.ref cx_TooGreat) (cv:=.ref cx_TooGreat) (λ_ h=>h) kx_TooGreat rfl B.isinstance boot_isinstance (y9 (u:=.ref cx_TooGreat) rfl mx_TooGreat rfl)) zi)))))))) (zh (xq (DWt.dt (zii (zew (qt (DE.dv (ve 0 (c:=.type "ValueError") (cv:=.ty "ValueError") (λ_ h=>h) XF.b_ValueError rfl B.isinstance boot_isinstance (v3 (u:=.type "ValueError") rfl B.ValueError (by decide +kernel) rfl))))) (zev (qt (DE.dv (zlt 0 (cs:=[.type "LookupError",.type "TypeError",.type "ArithmeticError",.type "RuntimeError"]) (cvs:=[.ty "LookupError",.ty "TypeError",.ty "ArithmeticError",.ty "RuntimeError"]) (zdv [(.ty "LookupError",.type "LookupError"),(.ty "TypeError",.type "TypeError"),(.ty "ArithmeticError",.type "ArithmeticError"),(.ty "RuntimeError",.type "RuntimeError")] (by intro p hp u hu;simp only[List.mem_cons,List.not_mem_nil,or_false]at hp;rcases hp with rfl|rfl|rfl|rfl <;> exact hu)) kt_0 rfl B.isinstance boot_isinstance (v6 (v3 (u:=.type "LookupError") rfl B.LookupError (by decide +kernel) rfl) (v6 (v3 (u:=.type "TypeError") rfl B.TypeError (by decide +kernel) rfl) (v6 (v3 (u:=.type "ArithmeticError") rfl B.ArithmeticError (by decide +kernel) rfl) (v6 (v3 (u:=.type "RuntimeError") rfl B.RuntimeError (by decide +kernel) rfl) zjh)))) (Nat.le_of_ble_eq_true rfl))))))) (zg (z7 (yf (za z5 zi zw)))) yo) (zh (xq (y7 (zq4 hr) (DE.dv (zhg (zf 1) zal)) (DE.dv zc) (yd _)) (zg (z7 (yf (za z5 zi zw)))) yo) (zh (yn (i:=2) sc__law_refusal.nd rfl (Or.inl rfl) (yz (DE.dv (DF.de (ym (za z5 (za z5 (za z5 (za z5 (za z5 (za z5 (za z5 zi zw) zw) zw) zw) zw) zw) zw)))) (zhh (zf 1) zal) (λ_ _=>rfl))) (zh (xq (y7 (zji hr) (zf 2) (DE.dv z5) (yd _)) (zg (z7 (yf (za (zq 2) (za v7 (za v7 zi)))))) yo) (zh (xq (y7 (zji hr) (zf 2) (DE.dv z5) (yd _)) (zg (z7 (yf (za (zq 2) (za v7 zi))))) yo) (zg (z7 (zil (y7 (zji hr) (zf 2) (DE.dv z5) (yd _)) (yf (za (zq 2) (za v7 zi))) (yf (za (zq 2) zi)))))))))))),?_⟩
 walk_at "ds";simp only[List.mem_cons,List.not_mem_nil,or_false]at hc;subst hc;simp only[show qe (["NoStep"]:List Str) "NoBeat" "NoStep" = some false by decide +kernel,show qe (["NoStep"]:List Str) "NoStep" "NoStep" = some true by decide +kernel,show qe (["NoStep"]:List Str) "NoNumber" "NoStep" = some false by decide +kernel,show qe (["NoStep"]:List Str) "NoLine" "NoStep" = some false by decide +kernel,show qe (["NoStep"]:List Str) "NoStory" "NoStep" = some false by decide +kernel,show qe (["NoStep"]:List Str) "NoText" "NoStep" = some false by decide +kernel,show qe (["NoStep"]:List Str) "TooGreat" "NoStep" = some false by decide +kernel,show zhi (["NoStep"]:List Str) true "NoStep" = some true by decide +kernel,show zhi (["NoStep"]:List Str) false "NoStep" = some false by decide +kernel];walk_at "ds";simp only[show xp [.bool false,.bool true,.bool false,.bool false,.bool false,.bool false,.bool false]=some [false,true,false,false,false,false,false] by rfl,show List.count true [false,true,false,false,false,false,false]=1 by decide,show List.findIdx? (λx=>x == true) [false,true,false,false,false,false,false]=some 1 by decide];walk_at "ds";refine⟨_,zf1 (j:=1) rfl,?_⟩;simp only[show ¬ (Str.ofString "step" = Str.ofString "great") by decide +kernel];walk_at "ds";exact q
end
section
variable {P:Program}{w:World}{K:PySem.W.Frag}{mg:Str->Option Value}{base:Heap}{f:Addr}{fd:FuncData}
theorem j0:∀ls:List (List Nat),Str.join (Str.ofString "") (ls.map txL)=txL ls.flatten
 |[]=>rfl
 |[l]=>by simp[Str.join]
 |l::m::ls=>by
  have ih:=j0 (m::ls);show txL l++Str.ofString "" ++ Str.join (Str.ofString "") ((m::ls).map txL)=_;rw[ih,show Str.ofString "" = txL [] by decide +kernel,zfg,zfg];simp
theorem zd9:∀ys:List D,(∀y∈ys,∃x:Nat,y=.str (txL [x])/\(x=97\/x=107))->∃l:List Nat,ys=l.map (λx=>PyData.str (txL [x]))/\Sg l
 |[],_=>⟨[],rfl,λx hx=>(nomatch hx)⟩
 |y::ys,h=>by
  obtain⟨x,rfl,hx⟩:=h y List.mem_cons_self;obtain⟨l,rfl,sg⟩:=zd9 ys λz hz=>h z (List.mem_cons_of_mem _ hz);refine⟨x::l,rfl,λz hz=>?_⟩;rcases List.mem_cons.mp hz with rfl|hz
  ·exact hx
  ·exact sg z hz
theorem zfs(l:List Nat):Txt.join (Str.ofString "") (l.map λx=>txL [x])=txL l:=by
 rw[show Txt.join (Str.ofString "") (l.map λx=>txL [x])=Str.join (Str.ofString "") (l.map λx=>txL [x]) from StrLaws.glued_eq_join _ _];have:=j0 (l.map λx=>[x]);rw[List.map_map]at this;refine this.trans ?_;congr 1;clear this
 induction l with
 |nil=>rfl
 |cons x l ih=>rw[List.map_cons,List.flatten_cons,ih];rfl
theorem zpm:(Str.ofString "ak")=txL [97,107]:=by decide +kernel
theorem zhq:zmu "NoStep" = "step" := by decide +kernel
def qm(a p b f w:Int)(l:List Nat):Ret:=if w=0 then .val (.int (gn a p b l 0 f []).1) else if w=1 then .val (.int ((l.count 107:Int)-((gn a p b l 0 f []).2.length:Int))) else .new ((gn a p b l 0 f []).2.map PyData.int)
def jb:DSp:=λws Q=>∃(a p b f w:Int) (d:D),ws = [.val (.int w),.val (pu a p b f),.val d]/\0<=w/\w<3/\qf a p b f/\Tg d/\(∀l,d=.str (txL l)->Sg l->l.length<=200->Q (qm a p b f w l))/\(wa 200 d=false->Q (.val (.tuple [.str "step"])))
theorem zc5(B:Blt mg)(F:Fun K "_law_told" "_law_told" vm f fd)(XF:Xf K mg)(C_coins_behind:y0 P w K mg base 6 "coins_behind" ["purse", "row"] (xr K w4))(C_paid_in:y0 P w K mg base 7 "paid_in" ["purse", "row"] (xr K zbb))(C_unpaid_at:y0 P w K mg base 6 "unpaid_at" ["purse", "row"] (xr K ww))(C__law_refusal:ky P w K mg base 1 "_law_refusal" ["_law_e"] (zx K xl)):FnOk P w K mg base CX0 8 f fd ["_law_way", "_law_purse_here", "_law_row_here"] (zx K jb):=by
 refine F.dok sc__law_told (λws Q h=>?_) (λcdv A outer s H ws Q E hr h=>?_)
 ·obtain⟨a,p,b,f,w,d,rfl,_⟩:=h;rfl
 obtain⟨a,p,b,f,w,d,rfl,w0,w1,o,tg,q1,q2⟩:=h;obtain⟨ck,mk,kk⟩:=XF.kn;refine⟨_,(zg (zj4 (i:=3) (j:=0) (kn := "KnockError") C_coins_behind C_paid_in C_unpaid_at C__law_refusal hr mk kk sc__law_told.nd rfl rfl rfl rfl rfl rfl rfl rfl rfl rfl (zp 1 (zp 2 zo)))),?_⟩;walk_at "ds";have qx:wa 200 d=false->(Str.ofString "NoStep")∈(["NoStep"]:List Str)/\xl [.exc (Str.ofString "NoStep",[])] λr=>Q r:=λc=>⟨List.mem_cons_self,_,rfl,List.mem_cons_self,by rw[zhq];exact q2 c⟩
 obtain rfl|rfl|rfl:w=0\/w=1\/w=2:=by omega
 ·exact .inl ⟨rfl,a,p,b,f,d,rfl,o,tg,λl e sg hl=>by have:=q1 l e sg hl;simpa[qm]using this,qx⟩
 ·exact .inr (.inl ⟨rfl,a,p,b,f,d,rfl,o,tg,λl e sg hl=>by have:=q1 l e sg hl;simpa[qm]using this,qx⟩)
 ·exact .inr (.inr ⟨rfl,a,p,b,f,d,rfl,o,tg,λl e sg hl=>by have:=q1 l e sg hl;simpa[qm]using this,qx⟩)
def j1:DSp:=λws Q=>ws = [.pen]/\∀d:D,Tg d->Q (.val d)
theorem zea(B:Blt mg)(F:Fun K "_law_odd" "_law_odd" qz f fd)(C__law_draw:Cal P w K mg base 2 "_law_draw" ["_law_pen", "_law_many"] (zx K yj)):FnOk P w K mg base CX0 3 f fd ["_law_pen"] (zx K j1):=by
 refine F.dok sc__law_odd (λws Q h=>?_) (λcdv A outer s H ws Q E hr h=>?_)
 ·obtain⟨rfl,_⟩:=h;rfl
 obtain⟨rfl,q⟩:=h;refine⟨_,(zh (yn (i:=1) sc__law_odd.nd rfl (Or.inl rfl) (DF.de (ym (za znm (za zal (za zal (za (znx zc) (za z5 (za z5 (za (DF.de (ym zi)) (za (yf zi) (za zll (za (yf (za zc zi zw)) (za (zv zmj (DE.dv zc) (DE.dv zc)) (za z5 (za (DF.de (ym (za zc (za zc zi zw) zw))) (za (yf (za (yf (za zc (za zc zi zw) zw)) zi zbf)) (za zl2 (za (yf (za zc (za zc (za zc zi zw) zw) zw)) zi zbf)) zbf) znk) zw)) zbf)) zbf) znk) zw) zw)) zw) zw) zw)))) (zg (z7 (yz (zf 1) (zr C__law_draw hr rfl (zp 0 (yh (yr jy rfl B.len PySem.boot_len (z6 (zf 1) yv)) zo))) (λ_ _=>rfl))))),?_⟩;walk_at "ds";refine⟨by unfold zm6;decide,?_⟩;refine wc (by first|decide|omega) (by first|decide|omega) λx lx hx=>?_;walk_at "ds";refine zgg (by omega) (by simp only[List.length_cons,List.length_nil];omega) λd hd=>q d ?_;simp only[List.mem_cons,List.not_mem_nil,or_false]at hd;rcases hd with rfl|rfl|rfl|rfl|rfl|rfl|rfl|rfl|rfl|rfl|rfl|rfl|rfl|rfl|rfl|rfl <;> intro x e <;> cases e <;> exact⟨by decide +kernel,by decide +kernel⟩
def j2:DSp:=λws Q=>ws = [.pen]/\∀l:List Nat,Sg l->l.length<=200->Q (.val (.str (txL l)))
theorem zeb(B:Blt mg)(F:Fun K "_law_row" "_law_row" q9 f fd)(C__law_draw:Cal P w K mg base 2 "_law_draw" ["_law_pen", "_law_many"] (zx K yj)):FnOk P w K mg base CX0 3 f fd ["_law_pen"] (zx K j2):=by
 refine F.dok sc__law_row (λws Q h=>?_) (λcdv A outer s H ws Q E hr h=>?_)
 ·obtain⟨rfl,_⟩:=h;rfl
 obtain⟨rfl,q⟩:=h;refine⟨_,(zh (ze5 (yf (za (yz (DE.dv (DF.de (ym (za zc (za zc (za zc (za zc (za zc (za zc zi zw) zw) zw) zw) zw) zw)))) (zr C__law_draw hr rfl (zp 0 (yh zc zo zw))) (λ_ _=>rfl)) (za (zv xa (DE.dv zc) (DE.dv (zr C__law_draw hr rfl (zp 0 (yh zc zo zw))))) zi))) (zap (n:=2) rfl (yt (z9 (i:=1) sc__law_row.nd rfl (Or.inl rfl)) (yt (z9 (i:=2) sc__law_row.nd rfl (Or.inr rfl)) km)))) (zg (z7 (zjs z5 (DE.dv (DF.de (ziw rfl (N':=["_law_turn", "_law_share", "_law_pen"]) (capt:=["_law_share", "_law_pen"]) (k:=1) (js:=[2,0]) ⟨rfl,by decide,rfl,by decide,(.cons rfl (.cons rfl .nil)),rfl,(.cons rfl (Or.inl rfl) rfl (Or.inl rfl) (.cons rfl (Or.inl rfl) rfl (Or.inl rfl) .nil)),rfl,by decide⟩ (DI.w (jj rfl B.range (za (zq 1) zi))) (λ_ _ _ _=>(z9 (i:=0) (show List.Nodup (["_law_turn", "_law_share", "_law_pen"]:List Str) by decide +kernel) rfl (Or.inl rfl) (Or.inr rfl))) (λ_ _ _ _=>zf9) (λ_ _ _ _=>(yz (DE.dv z5) (zb3 zmm rfl B.intT boot_int (z6 (DE.dv (zam zny (DE.dv (zr C__law_draw hr rfl (zp 2 (yh zc zo zw)))) (zf 1) (yd _))) yv)) (λ_ _=>rfl)))))))))),?_⟩;walk_at "ds";refine wc (by first|decide|omega) (by first|decide|omega) λw lw hw=>?_;walk_at "ds";refine zmo (ns:=[0,1,7,30,199,200]) (lo:=0) (hi:=200) (by omega) (by simp only[List.length_cons,List.length_nil];omega) (by intro z hz;simp only[List.mem_cons,List.not_mem_nil,or_false]at hz;omega) λn ln hn=>?_;walk_at "ds";refine wc (by first|decide|omega) (by first|decide|omega) λsh lsh hsh=>?_;walk_at "ds";refine⟨⟨by omega,by omega⟩,by rw[ze8];omega,ze6 (λy=>∃x:Nat,y=.str (txL [x])/\(x=97\/x=107)) (λd k hk=>?_) λys hl hys=>?_⟩
 ·walk_at "ds";refine wc (by first|decide|omega) (by first|decide|omega) λs ls hs=>?_;walk_at "ds";rw[zpm,wn];refine⟨by simp,?_⟩
  by_cases z:s<1+sh
  ·rw[if_pos z];exact⟨107,rfl,hk _ ⟨107,rfl,.inr rfl⟩⟩
  ·rw[if_neg z];exact⟨97,rfl,hk _ ⟨97,rfl,.inl rfl⟩⟩
 ·obtain⟨l,rfl,sg⟩:=zd9 ys hys;rw[List.length_map]at hl;refine⟨l.map λx=>txL [x],by rw[List.map_map];rfl,?_,?_⟩
  ·unfold JoinOk;rw[StrLaws.joinFits (B:=1) (λy hy=>by obtain⟨x,_,rfl⟩:=List.mem_map.mp hy;rw[wn];simp) (by rw[List.length_map,show(Str.ofString "").length=0 by decide +kernel];omega)];rfl
  ·rw[zfs];exact q l sg (by omega)
theorem zrb{xs:List D}:PyData.eqv (.list xs) (.list [])=decide (xs = []):=by
 cases xs with
 |nil=>simp[PyData.eqv,PyData.eqvAll]
 |cons x xs=>simp[PyData.eqv,PyData.eqvAll]
def vx:DSp:=λws Q=>∃d:D,ws = [.val d]/\Tg d/\Q (.val (.bool (wa 200 d)))
theorem zbc(B:Blt mg)(F:Fun K "_law_is_row" "_law_is_row" x9 f fd):FnOk P w K mg base CX0 1 f fd ["_law_thing"] (zx K vx):=by
 refine F.dok za2 (λws Q h=>?_) (λcdv A outer s H ws Q E hr h=>?_)
 ·obtain⟨d,rfl,_⟩:=h;rfl
 obtain⟨d,rfl,tg,q⟩:=h;refine⟨_,(zh (xq (DWt.dt (zii (zew (qt (DE.dv (ze0 (n := "str") zmn rfl B.isinstance boot_isinstance (zf 0) rfl B.strT boot_str)))) (zev (y7 znz (DE.dv (yr jy rfl B.len PySem.boot_len (z6 (zf 0) yv))) (DE.dv zc) (yd _))))) (zg (z7 zal)) yo) (zg (z7 (zam (zlc hr) (DE.dv (DF.de (ziw rfl (N':=["_law_sign"]) (capt:=[]) (k:=1) (js:=[]) ⟨rfl,by decide,rfl,by decide,.nil,rfl,.nil,rfl,by decide⟩ (DI.w (zjp (zq 0))) (λ_ _ _ _=>(z9 (i:=0) (show List.Nodup (["_law_sign"]:List Str) by decide +kernel) rfl (Or.inl rfl) (Or.inr rfl))) (λ_ _ _ _=>(zle (DWt.dt (znr (y7 (zn4 hr) (zf 0) (DE.dv z5) (yd _)) (zk8 (y7 (zn4 hr) (zf 0) (DE.dv z5) (yd _))))))) (λ_ _ _ _=>(zq 0))))) (DE.dv (DF.de (ym zi))) (yd _))))),?_⟩
 cases d with
 |str x=>
  walk_at "ds";obtain⟨h1,h2⟩:=tg x rfl;refine⟨by omega,?_⟩
  by_cases z:(200:Int)<x.length
  ·rw[if_pos z];have e:wa 200 (.str x)=false:=by simp only[wa];rw[decide_eq_false (by omega),Bool.and_false]
   rw[e]at q;exact q
  ·rw[if_neg z];refine⟨h1,by simp only[yx,List.length_map,Array.length_toList,Str.length]at h2 ⊢;omega,?_⟩
   have asc:∀c∈x.cps.toList,c<128:=λc hc=>by
    rw[Array.all_eq_true']at h1;simpa using h1 c (by simpa using hc)
   unfold yx;refine zgf (λc:Nat=>PyData.str ⟨#[c]⟩) (λc=>if c=97\/c=107 then none else some (.str ⟨#[c]⟩)) (λc hm K hK=>?_) ?_
   ·walk_at "ds";rw[show(⟨#[c]⟩:Str)=txL [c] from rfl]at hK ⊢;simp only[za5,zd5,zd6]
    by_cases c1:c=97
    ·rw[if_pos (.inl c1)]at hK;simp only[c1,decide_true,Bool.not_true,Bool.false_eq_true,if_false];exact hK
    ·by_cases c2:c=107
     ·rw[if_pos (.inr c2)]at hK;subst c2;simp only[decide_false,decide_true,Bool.not_false,Bool.not_true,Bool.false_eq_true,if_true,if_false,show ¬ ((107:Nat)=97) by decide];exact hK
     ·rw[if_neg (by omega)]at hK;simp only[c1,c2,decide_false,Bool.not_false,if_true];exact hK
   ·refine⟨Lay.list λy hy=>?_,rfl,?_⟩
    ·obtain⟨c,hc,e⟩:=List.mem_filterMap.mp hy;have hc':=asc c hc
     split at e
     ·cases e
     ·cases e;exact⟨zkh (by simpa using hc'),by simp[PyData.depth]⟩
    ·rw[zrb]
     have e:wa 200 (.str x)=decide (x.cps.toList.filterMap (λc=>if c=97\/c=107 then none else some (PyData.str ⟨#[c]⟩)) = []):=by
      simp only[wa];rw[decide_eq_true (show x.length<=200 by omega),Bool.and_true];rw[Bool.eq_iff_iff,sgB_iff,decide_eq_true_eq,List.filterMap_eq_nil_iff];constructor
      ·intro h c hc;rw[if_pos (h c hc)]
      ·intro h c hc;have:=h c hc
       by_cases z:c=97\/c=107
       ·exact z
       ·rw[if_neg z]at this;cases this
     rw[<-e];exact q
 |_=>walk_at "ds";exact q
def vy:DSp:=λws Q=>∃(a p b f:Int) (l:List Nat),ws = [.val (pu a p b f),.val (.str (txL l))]/\qf a p b f/\Sg l/\l.length<=200/\Q (.new [.int (gn a p b l 0 f []).1,.int ((l.count 107:Int)-((gn a p b l 0 f []).2.length:Int)),.list ((gn a p b l 0 f []).2.map PyData.int)])
theorem zbd(B:Blt mg)(F:Fun K "_law_walked" "_law_walked" x8 f fd):FnOk P w K mg base CX0 1 f fd ["_law_purse_here", "_law_row_here"] (zx K vy):=by
 refine F.dok sc__law_walked (λws Q h=>?_) (λcdv A outer s H ws Q E hr h=>?_)
 ·obtain⟨a,p,b,f,l,rfl,_⟩:=h;rfl
 obtain⟨a,p,b,f,l,rfl,o,sg,hl,q⟩:=h;refine⟨_,(zh (zlk (i:=2) (j:=3) rfl sc__law_walked.nd rfl rfl (by decide) rfl rfl (zoq (yz (zf 0) zc (λ_ _=>rfl)) (zor (ym zi) zop znk)) rfl) (zh (zao PassesOwn.never rfl (zd0 rfl B.enumerate (za (zq 1) zi)) (zap (n:=2) rfl (yt (z9 (i:=4) sc__law_walked.nd rfl (Or.inl rfl)) (yt (z9 (i:=5) sc__law_walked.nd rfl (Or.inl rfl)) km))) (zg (xq (y7 (zlc hr) (zf 5) (DE.dv z5) (yd _)) (zh (yn (i:=2) sc__law_walked.nd rfl (Or.inl rfl) (zv xa (zf 2) (DE.dv (yz (zf 0) zc (λ_ _=>rfl))))) (zg (xq (y7 znz (zf 2) (DE.dv (yz (zf 0) zc (λ_ _=>rfl))) (yd _)) (zg (yn (i:=2) sc__law_walked.nd rfl (Or.inl rfl) (yz (zf 0) zc (λ_ _=>rfl)))) yo))) (zg (xq (y7 zny (zf 2) (DE.dv (yz (zf 0) zc (λ_ _=>rfl))) (yd _)) (zg (zb6 3 (zq 4))) (zg (yn (i:=2) sc__law_walked.nd rfl (Or.inl rfl) (zv zb2 (zf 2) (DE.dv (yz (zf 0) zc (λ_ _=>rfl))))))))))) (zg (zoh 3 (zgb (ym (za (zq 2) (za (zv zb2 (DE.dv (zjr PySem.F.slot_str_count PySem.F.type_str_count zca (λ_ _ _=>.int) (zq 1) z5)) (DE.dv (yr jy rfl B.len PySem.boot_len (z6 (zf 3) yv)))) (za (zq 3) zi))))))))),?_⟩;simp only[pu];walk_at "ds";refine⟨_,rfl,sg.asc,?_⟩;rw[zd7];refine vc (λds σ=>∃(m:List Nat) (i:Nat) (c:Int) (u:List Int) (u4 u5:Option W),ds=va i (m.map λc=>PyData.str (txL [c]))/\Sg m/\i+m.length=l.length/\u.length<=i/\(0<=c/\c<=b)/\gn a p b m i c u=gn a p b l 0 f []/\σ = [some (.val (.tuple [.int a,.int p,.int b,.int f])),some (.val (.str (txL l))),some (.val (.int c)),some (.own (.lst (u.map PyData.int))),u4,u5]) ?_ ?_ ⟨l,0,f,[],none,none,rfl,sg,by omega,by simp,⟨o.f0,o.f1⟩,rfl,rfl⟩
 ·rintro d ds σ N ⟨m,i,c,u,u4,u5,e,sm,hi,hu,hc,hg,rfl⟩ k
  cases m with
  |nil=>cases e
  |cons x m=>
   cases e;have next:=zc2 o (x:=x) hc;rw[List.length_cons]at hi;have sm':Sg m:=λy hy=>sm y (List.mem_cons_of_mem _ hy);walk_at "ds";simp only[za5,zd6]
   by_cases z:x=97
   ·subst z;rw[if_pos rfl];refine⟨_,rfl,?_⟩;walk_at "ds";refine⟨_,rfl,?_⟩;walk_at "ds"
    by_cases z2:b<c+a
    ·rw[if_pos z2];refine⟨_,rfl,k _ ⟨m,i+1,b,u,_,_,rfl,sm',by omega,by omega,by omega,?_,rfl⟩⟩;rw[<-hg];simp only[gn,if_true,vr];rw[show min (c+1 * a) b=b by omega]
    ·rw[if_neg z2];refine k _ ⟨m,i+1,c+a,u,_,_,rfl,sm',by omega,by omega,by have:=o.a0;omega,?_,rfl⟩;rw[<-hg];simp only[gn,if_true,vr];rw[show min (c+1 * a) b=c+a by omega]
   ·rw[if_neg z];have x7:x=107:=(sm x List.mem_cons_self).resolve_left z;subst x7;refine⟨_,rfl,?_⟩;walk_at "ds"
    by_cases z2:c<p
    ·rw[if_pos z2];refine⟨by rw[List.length_map];omega,k _ ⟨m,i+1,c,u ++ [(i:Int)],_,_,rfl,sm',by omega,by simp;omega,hc,?_,(by rw[List.map_append];rfl)⟩⟩;rw[<-hg];simp only[gn,if_neg z,vr];rw[if_neg (by omega),if_neg (by omega)]
    ·rw[if_neg z2];refine⟨_,rfl,k _ ⟨m,i+1,c-p,u,_,_,rfl,sm',by omega,by omega,by have:=o.p0;omega,?_,rfl⟩⟩;rw[<-hg];simp only[gn,if_neg z,vr];rw[if_pos (by omega),if_pos (by omega)]
 ·rintro σ ⟨m,i,c,u,u4,u5,e,sm,hi,hu,hc,hg,rfl⟩
  cases m with
  |cons x m=>cases e
  |nil=>
   walk_at "ds";rw[zd5,zjw,List.length_map];rw[<-hg]at q;exact q
end
section
variable {P:Program}{w:World}{K:PySem.W.Frag}{mg:Str->Option Value}{base:Heap}{f:Addr}{fd:FuncData}
def AsT(n:Nat)(x:Str):Prop:=(x.cps.all (· < 128))=true/\x.length<=n
theorem AsT.app{a b:Nat}{x y:Str}(h:AsT a x)(h2:AsT b y):AsT (a+b) (x++y):=by
 refine⟨?_,by have:=h.2;have:=h2.2;rw[strLen_append];omega⟩;have:=h.1;have:=h2.1;rw[Array.all_eq_true']at *;intro c hc;rcases Array.mem_append.mp (show c∈x.cps++y.cps from hc) with z|z
 ·exact h.1 |> λh=>by rw[Array.all_eq_true']at h;exact h c z
 ·exact h2.1 |> λh=>by rw[Array.all_eq_true']at h;exact h c z
theorem AsT.slice{a:Nat}{x:Str}(h:AsT a x)(l u:Option Int):AsT a (Txt.slice x l u):=by
 refine⟨?_,Nat.le_trans (Txt.slice_le x l u) h.2⟩;have h1:=h.1;rw[Array.all_eq_true']at h1 ⊢;intro c hc;unfold Txt.slice at hc
 split at hc
 ·exact h1 c hc
 ·have hc':c∈(List.toArray _).toList:=Array.mem_toList_iff.mpr hc;obtain⟨i,hi,e⟩:=List.mem_filterMap.mp hc';exact h1 c (Array.mem_of_getElem? e)
theorem AsT.tg{x:Str}(h:AsT 1000 x):Tg (.str x):=λy e=>by cases e;exact h
theorem AsT.row{l:List Nat}(h:Sg l)(hl:l.length<=200):AsT 200 (txL l):=⟨h.asc,by rw[wn];exact hl⟩
def jc:DSp:=λws Q=>∃l:List Nat,ws = [.pen,.val (.str (txL l))]/\Sg l/\l.length<=200/\∀d,Tg d->Q (.val d)
theorem zc6(B:Blt mg)(F:Fun K "_law_bent" "_law_bent" vk f fd)(C__law_draw:Cal P w K mg base 2 "_law_draw" ["_law_pen", "_law_many"] (zx K yj)):FnOk P w K mg base CX0 3 f fd ["_law_pen", "_law_row_here"] (zx K jc):=by
 refine F.dok sc__law_bent (λws Q h=>?_) (λcdv A outer s H ws Q E hr h=>?_)
 ·obtain⟨l,rfl,_⟩:=h;rfl
 obtain⟨l,rfl,sg,hl,q⟩:=h;have al:=AsT.row sg hl;have ll:(txL l).length<=200:=al.2;have sgs:∃y:Str,y=Str.ofString " !#&()*+,-./0123456789:;<=>?@AKQ[]^_bcdefghijlmnopqrstuvwxyz{|}~\t\n" /\ AsT 100 y/\1<=y.length:=⟨_,rfl,⟨by decide +kernel,by decide +kernel⟩,by decide +kernel⟩
 obtain⟨y,ey,⟨y1,y2⟩,y3⟩:=sgs;generalize txL l=x at *;refine⟨_,(zh (yn (i:=2) sc__law_bent.nd rfl (Or.inl rfl) z5) (zh (zom (i:=3) (j:=4) rfl sc__law_bent.nd rfl rfl (by decide) rfl rfl (za (yz (zf 2) (zr C__law_draw hr rfl (zp 0 (yh (yr jy rfl B.len PySem.boot_len (z6 (zf 2) yv)) zo))) (λ_ _=>rfl)) (za (zr C__law_draw hr rfl (zp 0 (yh (zv xa (DE.dv (yr jy rfl B.len PySem.boot_len (z6 (zf 1) yv))) (DE.dv zc)) zo))) zi)) rfl) (zh (yn (i:=5) sc__law_bent.nd rfl (Or.inl rfl) (zr C__law_draw hr rfl (zp 0 (yh zc zo zw)))) (zh (yn (i:=6) sc__law_bent.nd rfl (Or.inl rfl) (DF.de (ym (za (zv xa (DE.dv (zv xa (DE.dv (qb (zq 1) zab (v5 (zq 4)))) (zf 3))) (DE.dv (qb (zq 1) (v5 (zq 4)) zab))) (za (zv xa (DE.dv (zv xa (DE.dv (qb (zq 1) zab (v5 (zq 4)))) (zf 3))) (DE.dv (qb (zq 1) (v5 (zv xa (zf 4) (DE.dv zc))) zab))) (za (zv xa (zf 1) (DE.dv (zv zjv (DE.dv z5) (DE.dv zc)))) (za (DF.de (zj0 rfl rfl B.listT (za (zq 1) zi))) zi))))))) (zg (z7 (yz (zf 6) (zq 5) (λ_ _=>rfl)))))))),?_⟩;refine wm (λσ=>σ = [some .pen,some (.val (.str x)),some (.val (.str y)),none,none,none,none]) (λN hN=>?_) ?_
 ·walk_at "ds";rw[<-ey];exact hN _ rfl
 rintro σ rfl;refine wm (λσ=>∃(c:Nat) (at0:Int),c<128/\0<=at0/\at0<=x.length/\σ = [some .pen,some (.val (.str x)),some (.val (.str y)),some (.val (.str ⟨#[c]⟩)),some (.val (.int at0)),none,none]) (λN hN=>?_) ?_
 ·walk_at "ds";refine⟨by omega,?_⟩;refine wc (by first|decide|omega) (by first|decide|omega) λi li hi=>?_;walk_at "ds";obtain⟨c,ec,hc⟩:=zet (xs:=y.cps.toList) li (by simpa[Str.length]using hi);refine⟨by omega,c,ec,by omega,?_⟩;refine wc (by first|decide|omega) (by first|decide|omega) λj lj hj=>?_;walk_at "ds";exact hN _ ⟨c,j,by rw[Array.all_eq_true']at y1;simpa using y1 c (by simpa using hc),lj,by omega,rfl⟩
 rintro σ ⟨c,at0,hc,h0,h1,rfl⟩;have ac:AsT 1 (⟨#[c]⟩:Str):=⟨by simpa using hc,by simp[Str.length]⟩
 walk_at "ds";refine wc (by first|decide|omega) (by first|decide|omega) λw lw hw=>?_;walk_at "ds";have s1:=al.slice none (some at0);have s2:=al.slice (some at0) none;have s3:=al.slice (some (at0+1)) none;have am:AsT 202 (Txt.mul (Str.ofString "ak") 101):=⟨by decide +kernel,by decide +kernel⟩
 have c1:=s1.app ac;have l1:=s1.2;have l2:=s2.2;have l3:=s3.2;have l4:=ac.2;have l5:=c1.2;have l6:=am.2;have hz:x.cps.size=x.length:=rfl;have mo:MulOk (Str.ofString "ak") 101:=by
  refine⟨by decide +kernel,λh2 _=>by decide +kernel,λh2 _=>?_⟩;unfold Builtin.Str.tooLong;simp only[sizeLine,gt_iff_lt,decide_eq_false_iff_not];decide +kernel
 refine⟨by omega,by omega,by omega,by omega,by omega,by omega,by omega,by omega,mo,by omega,by omega,?_⟩;refine zgg lw (by simp only[List.length_cons,List.length_nil];omega) λd hd=>q d ?_;have go:∀{n:Nat}{z:Str},AsT n z->n<=1000->Tg (.str z):=λ{n z} h hn=>AsT.tg ⟨h.1,by have:=h.2;omega⟩;simp only[List.mem_cons,List.not_mem_nil,or_false]at hd;rcases hd with rfl|rfl|rfl|rfl
 ·exact go (c1.app s2) (by decide)
 ·exact go (c1.app s3) (by decide)
 ·exact go (al.app am) (by decide)
 ·intro z e
  cases e
end
section
variable {P:Program}{w:World}{K:PySem.W.Frag}{mg:Str->Option Value}{base:Heap}{f:Addr}{fd:FuncData}
theorem zkl{a p b f:Int}(o:qf a p b f):∀(m:List Nat) (i:Nat) (c:Int) (u:List Int),(0<=c/\c<=b)->(∀x∈u,0<=x/\x<=1000)->i+m.length<=1000 ->
  (0<=(gn a p b m i c u).1/\(gn a p b m i c u).1<=b)/\(∀x∈(gn a p b m i c u).2,0<=x/\x<=1000)/\(gn a p b m i c u).2.length<=u.length+m.length
 |[],_,c,u,h,hu,_=>⟨h,hu,Nat.le_refl _⟩
 |x::m,i,c,u,h,hu,hi=>by
  rw[List.length_cons]at hi ⊢;simp only[gn];have key:∀v:List Int,(∀x∈v,0<=x/\x<=1000)->v.length<=u.length+1->_:=λv hv hl=>zkl o m (i+1) (vr a p b x c) v (zc2 o h) hv (by omega);have hs:∀y∈u ++ [(i:Int)],0<=y/\y<=1000:=λy hy=>by
   rcases List.mem_append.mp hy with z|z
   ·exact hu y z
   ·rw[List.mem_singleton.mp z];omega
  have fin:∀v:List Int,(∀x∈v,0<=x/\x<=1000)->v.length<=u.length+1->(0<=(gn a p b m (i+1) (vr a p b x c) v).1/\(gn a p b m (i+1) (vr a p b x c) v).1<=b)/\(∀x_1∈(gn a p b m (i+1) (vr a p b x c) v).2,0<=x_1/\x_1<=1000)/\(gn a p b m (i+1) (vr a p b x c) v).2.length<=u.length+(m.length+1):=λv hv hl=>by
   obtain⟨h1,h2,h3⟩:=key v hv hl;exact⟨h1,h2,by omega⟩
  split
  ·exact fin u hu (by omega)
  ·split
   ·exact fin u hu (by omega)
   ·exact fin _ hs (by simp)
theorem zpn{a p b f:Int}(o:qf a p b f){l:List Nat}(hl:l.length<=200):Lay (.list [.int (gn a p b l 0 f []).1,.int ((l.count 107:Int)-((gn a p b l 0 f []).2.length:Int)),.list ((gn a p b l 0 f []).2.map PyData.int)])/\(PyData.list [.int (gn a p b l 0 f []).1,.int ((l.count 107:Int)-((gn a p b l 0 f []).2.length:Int)),.list ((gn a p b l 0 f []).2.map PyData.int)]).showable=true/\(PyData.list [.int (gn a p b l 0 f []).1,.int ((l.count 107:Int)-((gn a p b l 0 f []).2.length:Int)),.list ((gn a p b l 0 f []).2.map PyData.int)]).shown.length<=sizeLine:=by
 obtain⟨⟨h1,h2⟩,h3,h4⟩:=zkl o l 0 f [] ⟨o.f0,o.f1⟩ (λx hx=>nomatch hx) (by omega);have:=o.b1;have hc:l.count 107<=l.length:=List.count_le_length;simp only[List.length_nil,Nat.zero_add]at h4;have s3:Sh (.list ((gn a p b l 0 f []).2.map PyData.int)) (200 *(41+2)+3) 1:=Sh.lst (n:=41) (k:=0) (m:=200) (λx hx=>by
  obtain⟨i,hi,rfl⟩:=List.mem_map.mp hx;have:=h3 i hi;exact Sh.intB (by omega) (by omega)) (by rw[List.length_map];omega)
 exact(Sh.lst (n:=200 *(41+2)+3) (k:=1) (m:=3) (zcq ((Sh.intB (by omega) (by omega)).mono (by decide) (by decide)) (zcq ((Sh.intB (by omega) (by omega)).mono (by decide) (by decide)) (zcq s3 zou))) (Nat.le_refl 3)).all (by decide) (by decide)
theorem jd:Lay (.list [.tuple [.str "step"],.tuple [.str "step"],.tuple [.str "step"]])/\(PyData.list [.tuple [.str "step"],.tuple [.str "step"],.tuple [.str "step"]]).showable=true/\(PyData.list [.tuple [.str "step"],.tuple [.str "step"],.tuple [.str "step"]]).shown.length<=sizeLine :=
 ⟨show SeqAt.shaped _=true by decide +kernel,by decide +kernel,by decide +kernel⟩
theorem zgo{xs:List D}{Q:D->Prop}(h:Lay (.list xs)/\(PyData.list xs).showable=true/\(PyData.list xs).shown.length<=sizeLine)(q:Q (.str (PyData.list xs).shown)):ze9 (.list xs) Q:=⟨h.1,h.2.1,h.2.2,q⟩
def Due(a p b f:Int)(d:D)(us:List D):Prop:=(wa 200 d=false/\us = [.tuple [.str "step"],.tuple [.str "step"],.tuple [.str "step"]])\/∃l:List Nat,d=.str (txL l)/\Sg l/\l.length<=200/\us = [.int (gn a p b l 0 f []).1,.int ((l.count 107:Int)-((gn a p b l 0 f []).2.length:Int)),.list ((gn a p b l 0 f []).2.map PyData.int)]
theorem zpo(B:Blt mg)(F:Fun K "law" "law" zke f fd)(C__law_cell_at:Cal P w K mg base 1 "_law_cell_at" ["_law_script", "_law_k"] (zx K wy))(C__law_pen_of:Cal P w K mg base 1 "_law_pen_of" ["_law_cell"] (zx K vn))(C__law_purse:Cal P w K mg base 3 "_law_purse" ["_law_pen"] (zx K qj))(C__law_odd:Cal P w K mg base 3 "_law_odd" ["_law_pen"] (zx K j1))(C__law_row:Cal P w K mg base 3 "_law_row" ["_law_pen"] (zx K j2))(C__law_bent:Cal P w K mg base 3 "_law_bent" ["_law_pen", "_law_row_here"] (zx K jc))(C__law_walked:Cal P w K mg base 1 "_law_walked" ["_law_purse_here", "_law_row_here"] (zx K vy))(C__law_told:Cal P w K mg base 8 "_law_told" ["_law_way", "_law_purse_here", "_law_row_here"] (zx K jb))(C__law_is_row:Cal P w K mg base 1 "_law_is_row" ["_law_thing"] (zx K vx)):FnOk P w K mg base CX0 9 f fd ["_law_script"] (zx K zc1):=by
 refine F.dok sc_law (λws Q h=>?_) (λcdv A outer s H ws Q E hr h=>?_)
 ·obtain⟨ns,rfl,_⟩:=h;rfl
 obtain⟨ns,rfl,h63,q⟩:=h;refine⟨_,(zh (zao PassesOwn.never rfl (zir (zv xa (DE.dv (DF.de (ym (za (zr C__law_cell_at hr rfl (zp 0 (yh zc zo zw))) zi)))) (DE.dv (DF.de (zob 0 (v5 zc) (v5 zc)))))) (z9 (i:=1) sc_law.nd rfl (Or.inl rfl)) (zh (zli (i:=2) sc_law.nd rfl (Or.inl rfl) (zlf C__law_pen_of hr rfl (zp 1 zo))) (zh (ze5 (yf (za (zr C__law_purse hr rfl (zp 2 zo)) (za (zr C__law_row hr rfl (zp 2 zo)) zi))) (zap (n:=2) rfl (yt (z9 (i:=3) sc_law.nd rfl (Or.inr rfl)) (yt (z9 (i:=4) sc_law.nd rfl (Or.inl rfl)) km)))) (zh (yn (i:=5) sc_law.nd rfl (Or.inl rfl) (zv xa (zf 4) (DE.dv (zv zjv (DE.dv z5) (DE.dv (zv zb2 (DE.dv zc) (DE.dv (yr jy rfl B.len PySem.boot_len (z6 (zf 4) yv))))))))) (zg (zao PassesOwn.never rfl (zir (DF.de (ym (za (zq 4) (za (zl7 (zq 4)) (za (zr C__law_bent hr rfl (zp 2 (zp 4 zo))) (za (zr C__law_bent hr rfl (zp 2 (zp 4 zo))) (za (zq 5) (za (zr C__law_odd hr rfl (zp 2 zo)) zi))))))))) (z9 (i:=6) sc_law.nd rfl (Or.inr rfl)) (zh (yn (i:=7) sc_law.nd rfl (Or.inl rfl) (zv zf6 (DE.dv (DF.de (ym (za (yf (za z5 zi zw)) zi zbf)))) (DE.dv zc))) (zh (xq (qt (DE.dv (zr C__law_is_row hr rfl (zp 6 zo)))) (zg (yn (i:=7) sc_law.nd rfl (Or.inl rfl) (zr C__law_walked hr rfl (zp 3 (zp 6 zo))))) yo) (zg (zao PassesOwn.never rfl (jj rfl B.range (za zc zi zw)) (z9 (i:=8) sc_law.nd rfl (Or.inl rfl)) (zh (zkd (j:=9) sc_law.nd rfl (Or.inl rfl) rfl (N':=["_law_way", "_law_purse_here", "_law_thing"]) (capt:=["_law_purse_here", "_law_thing"]) (k:=1) (js:=[3,6]) ⟨rfl,by decide,rfl,by decide,(.cons rfl (.cons rfl .nil)),rfl,(.cons rfl (Or.inl rfl) rfl (Or.inl rfl) (.cons rfl (Or.inl rfl) rfl (Or.inl rfl) .nil)),rfl,by decide⟩ C__law_told hr (DI.w (jj rfl B.range (za zc zi zw))) (λ_ _ _ _=>(z9 (i:=0) (show List.Nodup (["_law_way", "_law_purse_here", "_law_thing"]:List Str) by decide +kernel) rfl (Or.inl rfl) (Or.inr rfl))) (λ_ _ _ _=>(zp 0 (zp 1 (zp 2 zo))))) (zh (xq (y7 (zn4 hr) (DE.dv (zdp hr rfl B.repr boot_repr (zdn (zpj 9) zgd))) (DE.dv (zdp hr rfl B.repr boot_repr (zdn (zos 7) zgd))) (yd _)) (zg (z7 zal)) yo) (zg (xq (qt (DE.dv (ze0 (n := "list") zoa rfl B.isinstance boot_isinstance (zpb 9 zc (λ_ _=>rfl)) rfl B.listT boot_list))) (zg (zl0 9 zc zc (λ_ _=>rfl))) yo)))))))))))))) (zg (z7 zal))),?_⟩
 walk_at "ds";refine⟨ns,0,rfl,by decide,λv=>?_⟩;obtain⟨ys,ey,_,hy⟩:=ze7 PyData.int ns (some 1) (some 5);rw[ey,List.length_map];refine⟨by omega,?_⟩;walk_at "ds";refine vc (λds σ=>∃(vs:List Int) (u1 u2 u3 u4 u5 u6 u7 u8 u9:Option W),ds=vs.map PyData.int/\σ = [some (.scr ns),u1,u2,u3,u4,u5,u6,u7,u8,u9]) ?_ ?_ ⟨v::ys,none,none,none,none,none,none,none,none,none,rfl,rfl⟩
 ·rintro d ds σ N ⟨vs,u1,u2,u3,u4,u5,u6,u7,u8,u9,e,rfl⟩ k
  cases vs with
  |nil=>cases e
  |cons v vs=>
   cases e;refine wm (λσ=>σ = [some (.scr ns),some (.val (.int v)),some .pen,u3,u4,u5,u6,u7,u8,u9]) (λN' hN=>?_) ?_
   ·walk_at "ds";refine⟨_,rfl,λa b c=>?_⟩;walk_at "ds";exact⟨⟨a,b,c,rfl⟩,hN _ rfl⟩
   rintro σ rfl;refine wm (λσ=>∃(a p b f:Int) (l:List Nat),qf a p b f/\Sg l/\l.length<=200/\σ = [some (.scr ns),some (.val (.int v)),some .pen,some (.val (pu a p b f)),some (.val (.str (txL l))),u5,u6,u7,u8,u9]) (λN' hN=>?_) ?_
   ·walk_at "ds";refine⟨rfl,λa p b f o=>⟨rfl,λl sg hl=>?_⟩⟩;walk_at "ds";exact hN _ ⟨a,p,b,f,l,o,sg,hl,rfl⟩
   rintro σ ⟨a,p,b,f,l,o,sg,hl,rfl⟩;refine wm (λσ=>∃x:Str,AsT 1000 x/\σ = [some (.scr ns),some (.val (.int v)),some .pen,some (.val (pu a p b f)),some (.val (.str (txL l))),some (.val (.str x)),u6,u7,u8,u9]) (λN' hN=>?_) ?_
   ·walk_at "ds"
    have sl:Sg (l++List.replicate ((201-((txL l).length:Int)).toNat) 97):=λz hz=>by
     rcases List.mem_append.mp hz with y|y
     ·exact sg z y
     ·exact .inl (List.eq_of_mem_replicate y)
    have e:txL l++Txt.mul (Str.ofString "a") (201-((txL l).length:Int))=txL (l++List.replicate ((201-((txL l).length:Int)).toNat) 97):=by
     rw[za5,zpf (by rw[wn];omega),zfg]
    have hlen:(txL l).length=l.length:=wn l;refine⟨by omega,zl3 (by omega) (by omega) (by decide +kernel),?_,?_⟩
    ·rw[<-strLen_append,e,wn,List.length_append,List.length_replicate];omega
    ·rw[e];exact hN _ ⟨_,⟨sl.asc,by rw[wn,List.length_append,List.length_replicate];omega⟩,rfl⟩
   rintro σ ⟨x,ax,rfl⟩;walk_at "ds";have hlen:(txL l).length=l.length:=wn l;refine⟨by omega,l,rfl,sg,hl,λd1 t1=>⟨l,rfl,sg,hl,λd2 t2=>⟨rfl,λd3 t3=>?_⟩⟩⟩;dsimp only;have tl:Tg (.str (txL l)):=AsT.tg ⟨sg.asc,by omega⟩;have tr:Tg (.str (zfl (txL l))):=λz e=>by
    cases e;refine⟨?_,Nat.le_trans (zd1 _) (by omega)⟩;rw[Array.all_eq_true'];intro c hc;have h0:=sg.asc;rw[Array.all_eq_true']at h0;exact h0 c (by simpa using zj1 (by simpa using hc))
   refine zdo (λσ=>∃u6 u7 u8 u9:Option W,σ = [some (.scr ns),some (.val (.int v)),some .pen,some (.val (pu a p b f)),some (.val (.str (txL l))),some (.val (.str x)),u6,u7,u8,u9]) ⟨_,_,_,_,rfl⟩ ?_ ?_
   ·rintro d hd σ N2 ⟨u6,u7,u8,u9,rfl⟩ k2
    have td:Tg d:=by
     simp only[List.mem_cons,List.not_mem_nil,or_false]at hd;rcases hd with rfl|rfl|rfl|rfl|rfl|rfl
     ·exact tl
     ·exact tr
     ·exact t1
     ·exact t2
     ·exact ax.tg
     ·exact t3
    refine wm (λσ=>σ = [some (.scr ns),some (.val (.int v)),some .pen,some (.val (pu a p b f)),some (.val (.str (txL l))),some (.val (.str x)),some (.val d),some (.val (.list [.tuple [.str "step"],.tuple [.str "step"],.tuple [.str "step"]])),u8,u9]) (λN' hN=>?_) ?_
    ·walk_at "ds";exact⟨by decide,by decide,by decide,hN _ rfl⟩
    rintro σ rfl;refine wm (λσ=>∃us:List D,Due a p b f d us/\σ = [some (.scr ns),some (.val (.int v)),some .pen,some (.val (pu a p b f)),some (.val (.str (txL l))),some (.val (.str x)),some (.val d),some (.val (.list us)),u8,u9]) (λN' hN=>?_) ?_
    ·walk_at "ds";refine⟨d,rfl,td,?_⟩;walk_at "ds"
     cases c:wa 200 d with
     |false=>
      exact hN _ ⟨_,.inl ⟨c,rfl⟩,rfl⟩
     |true=>
      cases d with
      |str y=>
       obtain⟨m,rfl,sm,hm⟩:=zkj c;exact⟨a,p,b,f,m,rfl,o,sm,hm,hN _ ⟨_,.inr ⟨m,rfl,sm,hm,rfl⟩,rfl⟩⟩
      |_=>cases c
    rintro σ ⟨us,du,rfl⟩;walk_at "ds";refine⟨⟨by decide,by decide⟩,?_⟩;refine zdo (λσ=>∃u8 u9:Option W,σ = [some (.scr ns),some (.val (.int v)),some .pen,some (.val (pu a p b f)),some (.val (.str (txL l))),some (.val (.str x)),some (.val d),some (.val (.list us)),u8,u9]) ⟨_,_,rfl⟩ ?_ ?_
    ·rintro d0 hd0 σ N3 ⟨u8,u9,rfl⟩ k3;walk_at "ds";refine⟨⟨by decide,by decide⟩,by decide,?_⟩;rw[show xh 0 (Int.toNat 3) = [.int 0,.int 1,.int 2] from rfl];simp only[lrD];rcases du with⟨c,rfl⟩ |⟨m,rfl,sm,hm,rfl⟩
     ·walk_at "ds"
      have no:∀(l:List Nat),d=.str (txL l)->Sg l->l.length<=200->False:=λl e sg hl=>by
       subst e;rw[zkk sg hl]at c
       cases c
      refine⟨a,p,b,f,0,d,rfl,by decide,by decide,o,td,λl e y z=>(no l e y z).elim,λ_=>⟨a,p,b,f,1,d,rfl,by decide,by decide,o,td,λl e y z=>(no l e y z).elim,λ_=>⟨a,p,b,f,2,d,rfl,by decide,by decide,o,td,λl e y z=>(no l e y z).elim,λ_=>?_⟩⟩⟩;refine⟨jd.1.all,zgo jd ⟨jd.1.can,zgo jd ?_⟩⟩;dsimp only[onB];rw[decide_eq_true rfl];refine zk2 ⟨2,_,rfl,rfl,?_⟩;exact zk2 (k3 _ ⟨_,_,rfl⟩)
     ·walk_at "ds"
      have no:wa 200 (.str (txL m))=false->False:=λe=>by
       rw[zkk sm hm]at e
       cases e
      refine⟨a,p,b,f,0,_,rfl,by decide,by decide,o,td,λm0 e0 _ _=>?_,λz=>(no z).elim⟩
      cases zaf (PyData.str.inj e0);refine⟨a,p,b,f,1,_,rfl,by decide,by decide,o,td,λm0 e0 _ _=>?_,λz=>(no z).elim⟩
      cases zaf (PyData.str.inj e0);refine⟨a,p,b,f,2,_,rfl,by decide,by decide,o,td,λm0 e0 _ _=>?_,λz=>(no z).elim⟩
      cases zaf (PyData.str.inj e0);have sd:=zpn o hm;have t0:qm a p b f 0 m=.val (.int (gn a p b m 0 f []).1):=by simp[qm]
      have t1':qm a p b f 1 m=.val (.int ((m.count 107:Int)-((gn a p b m 0 f []).2.length:Int))):=by simp[qm]
      have t2':qm a p b f 2 m=.new ((gn a p b m 0 f []).2.map PyData.int):=by simp[qm]
      rw[t0,t1',t2'];refine⟨sd.1.all,zgo sd ⟨sd.1.can,zgo sd ?_⟩⟩;dsimp only[onB];rw[decide_eq_true rfl];refine zk2 ⟨2,_,rfl,rfl,2,_,rfl,rfl,?_,k3 _ ⟨_,_,rfl⟩⟩;have:=(zkl o m 0 f [] ⟨o.f0,o.f1⟩ (λx hx=>nomatch hx) (by omega)).2.2;rw[List.length_map];simp only[List.length_nil,Nat.zero_add]at this;omega
    ·rintro σ ⟨u8,u9,rfl⟩;exact k2 _ ⟨_,_,_,_,rfl⟩
   ·rintro σ ⟨u6,u7,u8,u9,rfl⟩;exact k _ ⟨vs,_,_,_,_,_,_,_,_,_,rfl,rfl⟩
 ·rintro σ ⟨vs,u1,u2,u3,u4,u5,u6,u7,u8,u9,e,rfl⟩;walk_at "ds";exact q
end
theorem zsg{us:List Value}(h:us.length=0):us = []:=List.eq_nil_of_length_eq_zero h
theorem zkm{us:List Value}(h:us.length=1):∃a0,us = [a0]:=by
 cases us with
 |nil=>cases h
 |cons a t=>
  obtain rfl:=zsg (Nat.succ.inj h);exact⟨a,rfl⟩
theorem zpp{us:List Value}(h:us.length=2):∃a0 a1,us = [a0,a1]:=by
 cases us with
 |nil=>cases h
 |cons a t=>
  obtain⟨a1,rfl⟩:=zkm (Nat.succ.inj h);exact⟨a,a1,rfl⟩
theorem zsh{us:List Value}(h:us.length=3):∃a0 a1 a2,us = [a0,a1,a2]:=by
 cases us with
 |nil=>cases h
 |cons a t=>
  obtain⟨a1,a2,rfl⟩:=zpp (Nat.succ.inj h);exact⟨a,a1,a2,rfl⟩
theorem cal(P:Program)(w:World)(base:Heap){K:PySem.W.Frag}{h:Heap}{mg:Str->Option Value}{x:Str}{st:Stmt}{k:Nat}{ps:List Str}{sp:Sp}(X:K.In h)(G:h.Ns mainGlobals mg)(p:xg K x st)(ok:∀(f:Addr) (fd:FuncData),Fun K x x st f fd->FnOk P w K mg base CX0 k f fd ps sp)(hb:∀us:List Value,us.length=ps.length->∀(kV doc pm:Value) (an:Option Addr) (cdv ct:Value),bindArgs (PySem.W.fnOf x x (yu st) (zy st) (zb st) .none kV doc pm an cdv ct) ⟨us,[]⟩=pure (ps.zip us)):w6 P w K mg base k x ps sp :=
 let ⟨f,fd,a,F⟩:=p;⟨f,fd,ok f fd F,F.binds λa b c d e g us hl=>hb us hl a b c d e g,F.kp,PySem.W.mg_of X G a⟩
theorem zmb(P:Program)(w:World)(base:Heap){K:PySem.W.Frag}{h:Heap}{mg:Str->Option Value}{x:Str}{st:Stmt}{k:Nat}{ps:List Str}{sp:Sp}(X:K.In h)(G:h.Ns mainGlobals mg)(p:xg K x st)(ok:∀(f:Addr) (fd:FuncData),Fun K x x st f fd->FnOk P w K mg base (CXk P w) k f fd ps sp)(hb:∀us:List Value,us.length=ps.length->∀(kV doc pm:Value) (an:Option Addr) (cdv ct:Value),bindArgs (PySem.W.fnOf x x (yu st) (zy st) (zb st) .none kV doc pm an cdv ct) ⟨us,[]⟩=pure (ps.zip us)):y0 P w K mg base k x ps sp :=
 let ⟨f,fd,a,F⟩:=p;⟨f,fd,ok f fd F,F.binds λa b c d e g us hl=>hb us hl a b c d e g,F.kp,PySem.W.mg_of X G a⟩
theorem zsi(P:Program)(w:World)(base:Heap){K:PySem.W.Frag}{h:Heap}{mg:Str->Option Value}{x:Str}{st:Stmt}{k:Nat}{ps:List Str}{sp:Sp}(X:K.In h)(G:h.Ns mainGlobals mg)(p:xg K x st)(ok:∀(f:Addr) (fd:FuncData),Fun K x x st f fd->FnH P w K mg base k f fd ps sp)(hb:∀us:List Value,us.length=ps.length->∀(kV doc pm:Value) (an:Option Addr) (cdv ct:Value),bindArgs (PySem.W.fnOf x x (yu st) (zy st) (zb st) .none kV doc pm an cdv ct) ⟨us,[]⟩=pure (ps.zip us)):ky P w K mg base k x ps sp :=
 let ⟨f,fd,a,F⟩:=p;⟨f,fd,ok f fd F,F.binds λa b c d e g us hl=>hb us hl a b c d e g,F.kp,PySem.W.mg_of X G a⟩
theorem zec{p:List Value->Prop}(h:∀a0,p [a0])(us:List Value)(hl:us.length=1):p us:=by
 obtain⟨a0,rfl⟩:=zkm hl;exact h a0
theorem zbp{p:List Value->Prop}(h:∀a0 a1,p [a0,a1])(us:List Value)(hl:us.length=2):p us:=by
 obtain⟨a0,a1,rfl⟩:=zpp hl;exact h a0 a1
theorem zpq{p:List Value->Prop}(h:∀a0 a1 a2,p [a0,a1,a2])(us:List Value)(hl:us.length=3):p us:=by
 obtain⟨a0,a1,a2,rfl⟩:=zsh hl;exact h a0 a1 a2
theorem all_mk{l:PySem.W.OpenLaw}{w:World}{K:PySem.W.Frag}{h:Heap}{mg:Str->Option Value}{fa  : Addr}(X:K.In h)(G:h.Ns mainGlobals mg)(hfa:mg "law" = some (.ref fa))
  (p0:xg K "coins_asked" x4)
  (p1:xg K "can_pay" jt)
  (p2:xg K "coins_by" qy)
  (p3:xg K "signs_good" wt)
  (p4:xg K "gone_by" ju)
  (p5:xg K "gone_by_row" x5)
  (p6:xg K "coins_behind" xu)
  (p7:xg K "paid_in" jv)
  (p8:xg K "unpaid_at" vh)
  (p9:xg K "_law_cell_at" xv)
  (p10:xg K "_law_next" vi)
  (p11:xg K "_law_pen_of" x6)
  (p12:xg K "_law_draw" vj)
  (p13:xg K "_law_purse" wu)
  (p14:xg K "_law_odd" qz)
  (p15:xg K "_law_refusal" xw)
  (p16:xg K "_law_row" q9)
  (p17:xg K "_law_bent" vk)
  (p18:xg K "_law_walked" x8)
  (p19:xg K "_law_told" vm)
  (p20:xg K "_law_is_row" x9)
  (p21:xg K "law" zke)
  (z_len:PySem.W.nsIn K mainGlobals "len" = some none)
  (z_range:PySem.W.nsIn K mainGlobals "range" = some none)
  (z_enumerate:PySem.W.nsIn K mainGlobals "enumerate" = some none)
  (z_min:PySem.W.nsIn K mainGlobals "min" = some none)
  (z_max:PySem.W.nsIn K mainGlobals "max" = some none)
  (z_repr:PySem.W.nsIn K mainGlobals "repr" = some none)
  (z_isinstance:PySem.W.nsIn K mainGlobals "isinstance" = some none)
  (z_all:PySem.W.nsIn K mainGlobals "all" = some none)
  (z_intT:PySem.W.nsIn K mainGlobals "int" = some none)
  (z_listT:PySem.W.nsIn K mainGlobals "list" = some none)
  (z_strT:PySem.W.nsIn K mainGlobals "str" = some none)
  (z_ValueError:PySem.W.nsIn K mainGlobals "ValueError" = some none)
  (z_LookupError:PySem.W.nsIn K mainGlobals "LookupError" = some none)
  (z_TypeError:PySem.W.nsIn K mainGlobals "TypeError" = some none)
  (z_ArithmeticError:PySem.W.nsIn K mainGlobals "ArithmeticError" = some none)
  (z_RuntimeError:PySem.W.nsIn K mainGlobals "RuntimeError" = some none)
  {t_ASK:Tok} (y_ASK:PySem.W.nsIn K mainGlobals "ASK" = some (some (.str "a" t_ASK)))
  {t_KNOCK:Tok} (y_KNOCK:PySem.W.nsIn K mainGlobals "KNOCK" = some (some (.str "k" t_KNOCK)))
  {t_MOST_DEEDS:Tok} (y_MOST_DEEDS:PySem.W.nsIn K mainGlobals "MOST_DEEDS" = some (some (.int 200 t_MOST_DEEDS)))
  {c_NoStep:Addr} (xa_NoStep:PySem.W.nsIn K mainGlobals "NoStep" = some (some (.ref c_NoStep)))
  {c_KnockError:Addr} (xa_KnockError:PySem.W.nsIn K mainGlobals "KnockError" = some (some (.ref c_KnockError)))
  {c_NoBeat:Addr} (xa_NoBeat:PySem.W.nsIn K mainGlobals "NoBeat" = some (some (.ref c_NoBeat)))
  {c_NoNumber:Addr} (xa_NoNumber:PySem.W.nsIn K mainGlobals "NoNumber" = some (some (.ref c_NoNumber)))
  {c_NoLine:Addr} (xa_NoLine:PySem.W.nsIn K mainGlobals "NoLine" = some (some (.ref c_NoLine)))
  {c_NoStory:Addr} (xa_NoStory:PySem.W.nsIn K mainGlobals "NoStory" = some (some (.ref c_NoStory)))
  {c_NoText:Addr} (xa_NoText:PySem.W.nsIn K mainGlobals "NoText" = some (some (.ref c_NoText)))
  {c_TooGreat:Addr} (xa_TooGreat:PySem.W.nsIn K mainGlobals "TooGreat" = some (some (.ref c_TooGreat)))
  (xd_NoStep:PySem.W.hasDictIn K c_NoStep=true)
  (xt_NoStep:PySem.W.typeIn K (.ref c_NoStep)=some (.type "type"))
  (xd_KnockError:PySem.W.hasDictIn K c_KnockError=true)
  (xt_KnockError:PySem.W.typeIn K (.ref c_KnockError)=some (.type "type"))
  (xd_NoBeat:PySem.W.hasDictIn K c_NoBeat=true)
  (xt_NoBeat:PySem.W.typeIn K (.ref c_NoBeat)=some (.type "type"))
  (xd_NoNumber:PySem.W.hasDictIn K c_NoNumber=true)
  (xt_NoNumber:PySem.W.typeIn K (.ref c_NoNumber)=some (.type "type"))
  (xd_NoLine:PySem.W.hasDictIn K c_NoLine=true)
  (xt_NoLine:PySem.W.typeIn K (.ref c_NoLine)=some (.type "type"))
  (xd_NoStory:PySem.W.hasDictIn K c_NoStory=true)
  (xt_NoStory:PySem.W.typeIn K (.ref c_NoStory)=some (.type "type"))
  (xd_NoText:PySem.W.hasDictIn K c_NoText=true)
  (xt_NoText:PySem.W.typeIn K (.ref c_NoText)=some (.type "type"))
  (xd_TooGreat:PySem.W.hasDictIn K c_TooGreat=true)
  (xt_TooGreat:PySem.W.typeIn K (.ref c_TooGreat)=some (.type "type"))
  (xsp:PySem.W.specialIn K (.builtin "object.__class__") "__get__" = some (some (.builtin "getset_descriptor.__get__")))
  (xtk:PySem.W.takesIn K (.builtin "object.__class__")=some true)
  (xkb:PySem.W.subIn K (.ref c_KnockError) (.type "BaseException")=some true)
  (xe_NoStep:PySem.W.excIn K c_NoStep [.type "ValueError",.type "Exception",.type "BaseException",.type "object"] "ValueError.__new__" = true)
  (xg_NoStep:PySem.W.findIn K (.ref c_NoStep) "__getattribute__" = some (some (.builtin "BaseException.__getattribute__")))
  (xh_NoStep:PySem.W.findIn K (.ref c_NoStep) "__getattr__" = some none)
  (xo_NoStep:PySem.W.mroIn K c_NoStep (.type "BaseException")=some true)
  (xf_NoStep:PySem.W.findIn K (.ref c_NoStep) "__class__" = some (some (.builtin "object.__class__")))
  (xm_NoStep:PySem.W.mroIn K c_NoStep (.type "object")=some true)
  (xs_NoStep_KnockError:PySem.W.subIn K (.ref c_NoStep) (.ref c_KnockError)=some true)
  (xs_NoStep_NoBeat:PySem.W.subIn K (.ref c_NoStep) (.ref c_NoBeat)=some false)
  (xn_NoStep_NoBeat:c_NoStep≠c_NoBeat)
  (xs_NoStep_NoNumber:PySem.W.subIn K (.ref c_NoStep) (.ref c_NoNumber)=some false)
  (xn_NoStep_NoNumber:c_NoStep≠c_NoNumber)
  (xs_NoStep_NoLine:PySem.W.subIn K (.ref c_NoStep) (.ref c_NoLine)=some false)
  (xn_NoStep_NoLine:c_NoStep≠c_NoLine)
  (xs_NoStep_NoStory:PySem.W.subIn K (.ref c_NoStep) (.ref c_NoStory)=some false)
  (xn_NoStep_NoStory:c_NoStep≠c_NoStory)
  (xs_NoStep_NoText:PySem.W.subIn K (.ref c_NoStep) (.ref c_NoText)=some false)
  (xn_NoStep_NoText:c_NoStep≠c_NoText)
  (xs_NoStep_TooGreat:PySem.W.subIn K (.ref c_NoStep) (.ref c_TooGreat)=some false)
  (xn_NoStep_TooGreat:c_NoStep≠c_TooGreat)
  (xb_NoStep_ValueError:PySem.W.subIn K (.ref c_NoStep) (.type "ValueError")=some true)
  (xb_NoStep_LookupError:PySem.W.subIn K (.ref c_NoStep) (.type "LookupError")=some false)
  (xb_NoStep_TypeError:PySem.W.subIn K (.ref c_NoStep) (.type "TypeError")=some false)
  (xb_NoStep_ArithmeticError:PySem.W.subIn K (.ref c_NoStep) (.type "ArithmeticError")=some false)
  (xb_NoStep_RuntimeError:PySem.W.subIn K (.ref c_NoStep) (.type "RuntimeError")=some false)
  {c_Purse:Addr} (xa_Purse:PySem.W.nsIn K mainGlobals "Purse" = some (some (.ref c_Purse)))
  (xpg_Purse:PySem.W.plainGet K c_Purse Str.empty=true)
  (xhd_Purse:PySem.W.hasDictIn K c_Purse=true)
  (xpo_Purse:PySem.W.plainOver K c_Purse=true)
  (xsa_Purse:PySem.W.findIn K (.ref c_Purse) "__setattr__" = some (some (.builtin "object.__setattr__")))
  (xmk_Purse:PySem.W.makesIn K c_Purse=true)
  (xkc_Purse:PySem.W.keepIn K (.ref c_Purse)=true)
  (xnf_Purse_purse:PySem.W.findIn K (.ref c_Purse) "purse" = some none)
  (xnf_Purse_coins:PySem.W.findIn K (.ref c_Purse) "coins" = some none)
  {i_Purse____init__:Addr} (xj_Purse____init__:PySem.W.findIn K (.ref c_Purse) "__init__" = some (some (.ref i_Purse____init__)))
  (xi_Purse____init__:PySem.W.isFn K (.ref i_Purse____init__)=true)
  {xod_Purse____init__ xan_Purse____init__:Option Addr}{xsl_Purse____init__:Array (Option Value)}{xoc_Purse____init__ xkV_Purse____init__ xdc_Purse____init__ xpm_Purse____init__ xcd_Purse____init__ xct_Purse____init__:Value} (xl_Purse____init__:K.lookup i_Purse____init__=some ⟨xoc_Purse____init__,xod_Purse____init__,.func (PySem.W.fnOf "__init__" "Purse.__init__" (yu z0) (zy z0) (zb z0) .none xkV_Purse____init__ xdc_Purse____init__ xpm_Purse____init__ xan_Purse____init__ xcd_Purse____init__ xct_Purse____init__),xsl_Purse____init__⟩)
  (xw_Purse____init__:PySem.W.codeIn K xcd_Purse____init__ "Purse.__init__" = true)
  (xy_Purse____init__:PySem.W.keepIn K (.ref i_Purse____init__)=true)
  {i_Purse__ask:Addr} (xj_Purse__ask:PySem.W.findIn K (.ref c_Purse) "ask" = some (some (.ref i_Purse__ask)))
  (xi_Purse__ask:PySem.W.isFn K (.ref i_Purse__ask)=true)
  {xod_Purse__ask xan_Purse__ask:Option Addr}{xsl_Purse__ask:Array (Option Value)}{xoc_Purse__ask xkV_Purse__ask xdc_Purse__ask xpm_Purse__ask xcd_Purse__ask xct_Purse__ask:Value} (xl_Purse__ask:K.lookup i_Purse__ask=some ⟨xoc_Purse__ask,xod_Purse__ask,.func (PySem.W.fnOf "ask" "Purse.ask" (yu yw) (zy yw) (zb yw) .none xkV_Purse__ask xdc_Purse__ask xpm_Purse__ask xan_Purse__ask xcd_Purse__ask xct_Purse__ask),xsl_Purse__ask⟩)
  (xw_Purse__ask:PySem.W.codeIn K xcd_Purse__ask "Purse.ask" = true)
  (xy_Purse__ask:PySem.W.keepIn K (.ref i_Purse__ask)=true)
  {i_Purse__knock:Addr} (xj_Purse__knock:PySem.W.findIn K (.ref c_Purse) "knock" = some (some (.ref i_Purse__knock)))
  (xi_Purse__knock:PySem.W.isFn K (.ref i_Purse__knock)=true)
  {xod_Purse__knock xan_Purse__knock:Option Addr}{xsl_Purse__knock:Array (Option Value)}{xoc_Purse__knock xkV_Purse__knock xdc_Purse__knock xpm_Purse__knock xcd_Purse__knock xct_Purse__knock:Value} (xl_Purse__knock:K.lookup i_Purse__knock=some ⟨xoc_Purse__knock,xod_Purse__knock,.func (PySem.W.fnOf "knock" "Purse.knock" (yu yi) (zy yi) (zb yi) .none xkV_Purse__knock xdc_Purse__knock xpm_Purse__knock xan_Purse__knock xcd_Purse__knock xct_Purse__knock),xsl_Purse__knock⟩)
  (xw_Purse__knock:PySem.W.codeIn K xcd_Purse__knock "Purse.knock" = true)
  (xy_Purse__knock:PySem.W.keepIn K (.ref i_Purse__knock)=true)
  {i_Purse__held:Addr} (xj_Purse__held:PySem.W.findIn K (.ref c_Purse) "held" = some (some (.ref i_Purse__held)))
  (xi_Purse__held:PySem.W.isFn K (.ref i_Purse__held)=true)
  {xod_Purse__held xan_Purse__held:Option Addr}{xsl_Purse__held:Array (Option Value)}{xoc_Purse__held xkV_Purse__held xdc_Purse__held xpm_Purse__held xcd_Purse__held xct_Purse__held:Value} (xl_Purse__held:K.lookup i_Purse__held=some ⟨xoc_Purse__held,xod_Purse__held,.func (PySem.W.fnOf "held" "Purse.held" (yu yk) (zy yk) (zb yk) .none xkV_Purse__held xdc_Purse__held xpm_Purse__held xan_Purse__held xcd_Purse__held xct_Purse__held),xsl_Purse__held⟩)
  (xw_Purse__held:PySem.W.codeIn K xcd_Purse__held "Purse.held" = true)
  (xy_Purse__held:PySem.W.keepIn K (.ref i_Purse__held)=true)
  : ∃fd:FuncData,(∀(s:Shared) (v:Value),BindsTo s fd ⟨[v],[]⟩ [("_law_script",v)])/\∀base:Heap,K.In base->base.Ns mainGlobals mg->FnOk l.prog w K mg base CX0 9 fa fd ["_law_script"] (zx K zc1):=by
 obtain⟨f21,fd21,a21,F21⟩:=p21;have e:=hfa.symm.trans (PySem.W.mg_of X G a21)
 cases e;have B:Blt mg:=⟨PySem.W.mg_none_of X G z_len,PySem.W.mg_none_of X G z_range,PySem.W.mg_none_of X G z_enumerate,PySem.W.mg_none_of X G z_min,PySem.W.mg_none_of X G z_max,PySem.W.mg_none_of X G z_repr,PySem.W.mg_none_of X G z_isinstance,PySem.W.mg_none_of X G z_all,PySem.W.mg_none_of X G z_intT,PySem.W.mg_none_of X G z_listT,PySem.W.mg_none_of X G z_strT,PySem.W.mg_none_of X G z_ValueError,PySem.W.mg_none_of X G z_LookupError,PySem.W.mg_none_of X G z_TypeError,PySem.W.mg_none_of X G z_ArithmeticError,PySem.W.mg_none_of X G z_RuntimeError⟩
 have G_ASK:=PySem.W.mg_of X G y_ASK;have G_KNOCK:=PySem.W.mg_of X G y_KNOCK;have G_MOST_DEEDS:=PySem.W.mg_of X G y_MOST_DEEDS;have xi_NoStep:XIs K c_NoStep:=⟨xg_NoStep,xh_NoStep,xo_NoStep,xd_NoStep,xf_NoStep,xsp,xtk,xm_NoStep⟩
 have XF:Xf K mg:=⟨⟨_,PySem.W.mg_of X G xa_NoStep,xa_NoStep,xe_NoStep⟩,⟨_,PySem.W.mg_of X G xa_KnockError,(y4 (zq5 xa_NoStep ⟨xb xd_KnockError xt_KnockError xs_NoStep_KnockError,xkb⟩) xt)⟩,⟨_,PySem.W.mg_of X G xa_NoBeat,wj (c:=λ_=>True) wk (y4 (wl (v:=false) xa_NoStep (by decide +kernel) ⟨xi_NoStep,(xn xn_NoStep_NoBeat (xb xd_NoBeat xt_NoBeat xs_NoStep_NoBeat))⟩) xt)⟩,⟨_,PySem.W.mg_of X G xa_NoStep,wj (c:=λ_=>True) wk (y4 (wl (v:=true) xa_NoStep (by decide +kernel) ⟨xi_NoStep,zdu⟩) xt)⟩,⟨_,PySem.W.mg_of X G xa_NoNumber,wj (c:=λ_=>True) wk (y4 (wl (v:=false) xa_NoStep (by decide +kernel) ⟨xi_NoStep,(xn xn_NoStep_NoNumber (xb xd_NoNumber xt_NoNumber xs_NoStep_NoNumber))⟩) xt)⟩,⟨_,PySem.W.mg_of X G xa_NoLine,wj (c:=λ_=>True) wk (y4 (wl (v:=false) xa_NoStep (by decide +kernel) ⟨xi_NoStep,(xn xn_NoStep_NoLine (xb xd_NoLine xt_NoLine xs_NoStep_NoLine))⟩) xt)⟩,⟨_,PySem.W.mg_of X G xa_NoStory,wj (c:=λ_=>True) wk (y4 (wl (v:=false) xa_NoStep (by decide +kernel) ⟨xi_NoStep,(xn xn_NoStep_NoStory (xb xd_NoStory xt_NoStory xs_NoStep_NoStory))⟩) xt)⟩,⟨_,PySem.W.mg_of X G xa_NoText,wj (c:=λ_=>True) wk (y4 (wl (v:=false) xa_NoStep (by decide +kernel) ⟨xi_NoStep,(xn xn_NoStep_NoText (xb xd_NoText xt_NoText xs_NoStep_NoText))⟩) xt)⟩,⟨_,PySem.W.mg_of X G xa_TooGreat,wj (c:=λ_=>True) wk (y4 (wl (v:=false) xa_NoStep (by decide +kernel) ⟨xi_NoStep,(xn xn_NoStep_TooGreat (xb xd_TooGreat xt_TooGreat xs_NoStep_TooGreat))⟩) xt)⟩,(wj (c:=λ_=>True) zgh (y4 (wl (v:=true) xa_NoStep (by decide +kernel) ⟨xi_NoStep,(wd (by decide +kernel) xb_NoStep_ValueError)⟩) xt)),(wj (c:=λ_=>True) zgh (y4 (wl (v:=false) xa_NoStep (by decide +kernel) ⟨xi_NoStep,(qa (wd (by decide +kernel) xb_NoStep_LookupError) (qa (wd (by decide +kernel) xb_NoStep_TypeError) (qa (wd (by decide +kernel) xb_NoStep_ArithmeticError) (qa (wd (by decide +kernel) xb_NoStep_RuntimeError) zfd))))⟩) xt))⟩
 refine⟨fd21,λs v=>zhp F21 (λ_ _ _ _ _ _=>rfl),λbase _ _=>?_⟩;have I_Purse:zbi K mg "Purse" c_Purse ["purse", "coins"]:=⟨PySem.W.mg_of X G xa_Purse,xa_Purse,⟨xpg_Purse,xhd_Purse,xpo_Purse,xsa_Purse⟩,(y4 xnf_Purse_purse (y4 xnf_Purse_coins xt))⟩
 have C_coins_asked:=cal l.prog w base X G p0 (λ_ _ F=>za6 B F  ) (zpq λ_ _ _ _ _ _ _ _ _=>rfl);have C_can_pay:=cal l.prog w base X G p1 (λ_ _ F=>zfp B F  ) (zbp λ_ _ _ _ _ _ _ _=>rfl);have C_signs_good:=cal l.prog w base X G p3 (λ_ _ F=>zbo B F G_ASK G_KNOCK ) (zec λ_ _ _ _ _ _ _=>rfl);have C__law_cell_at:=cal l.prog w base X G p9 (λ_ _ F=>j7 B F  ) (zbp λ_ _ _ _ _ _ _ _=>rfl);have C__law_next:=cal l.prog w base X G p10 (λ_ _ F=>zcz B F  ) (zec λ_ _ _ _ _ _ _=>rfl);have C__law_pen_of:=cal l.prog w base X G p11 (λ_ _ F=>za4 B F  ) (zec λ_ _ _ _ _ _ _=>rfl);have C__law_refusal:=zsi l.prog w base X G p15 (λ_ _ F=>h7 B F  XF ) (zec λ_ _ _ _ _ _ _=>rfl);have C__law_walked:=cal l.prog w base X G p18 (λ_ _ F=>zbd B F  ) (zbp λ_ _ _ _ _ _ _ _=>rfl);have C__law_is_row:=cal l.prog w base X G p20 (λ_ _ F=>zbc B F  ) (zec λ_ _ _ _ _ _ _=>rfl);have FI_Purse____init__:=zak (st:=z0) xl_Purse____init__ xw_Purse____init__ xy_Purse____init__;have C_Purse____init__:MkC l.prog w K mg base _ c_Purse ["self", "purse"] _:=⟨_,_,⟨xmk_Purse,xj_Purse____init__,xi_Purse____init__,xkc_Purse⟩,kh B FI_Purse____init__  I_Purse ,(FI_Purse____init__.binds (ps:=["self", "purse"]) λ_ _ _ _ _ _ us hl=>by obtain⟨_,_,rfl⟩:=zpp hl;rfl)⟩
 have FI_Purse__held:=zak (st:=yk) xl_Purse__held xw_Purse__held xy_Purse__held;have C_Purse__held:zfj l.prog w K mg base _ c_Purse "held" ["self"] _:=⟨_,_,⟨xj_Purse__held,xi_Purse__held,xy_Purse__held⟩,za8 B FI_Purse__held  I_Purse ,(FI_Purse__held.binds (ps:=["self"]) λ_ _ _ _ _ _ us hl=>by obtain⟨_,rfl⟩:=zkm hl;rfl)⟩
 have C_coins_by:=cal l.prog w base X G p2 (λ_ _ F=>zd8 B F G_ASK C_coins_asked C_can_pay) (zpq λ_ _ _ _ _ _ _ _ _=>rfl);have C__law_draw:=cal l.prog w base X G p12 (λ_ _ F=>zc0 B F  C__law_next) (zbp λ_ _ _ _ _ _ _ _=>rfl);have C__law_purse:=cal l.prog w base X G p13 (λ_ _ F=>zbm B F  C__law_draw) (zec λ_ _ _ _ _ _ _=>rfl);have C__law_odd:=cal l.prog w base X G p14 (λ_ _ F=>zea B F  C__law_draw) (zec λ_ _ _ _ _ _ _=>rfl);have C__law_row:=cal l.prog w base X G p16 (λ_ _ F=>zeb B F  C__law_draw) (zec λ_ _ _ _ _ _ _=>rfl);have C__law_bent:=cal l.prog w base X G p17 (λ_ _ F=>zc6 B F  C__law_draw) (zbp λ_ _ _ _ _ _ _ _=>rfl);have FI_Purse__ask:=zak (st:=yw) xl_Purse__ask xw_Purse__ask xy_Purse__ask;have C_Purse__ask:zfj l.prog w K mg base _ c_Purse "ask" ["self"] _:=⟨_,_,⟨xj_Purse__ask,xi_Purse__ask,xy_Purse__ask⟩,zbn B FI_Purse__ask G_ASK I_Purse C_coins_by,(FI_Purse__ask.binds (ps:=["self"]) λ_ _ _ _ _ _ us hl=>by obtain⟨_,rfl⟩:=zkm hl;rfl)⟩
 have FI_Purse__knock:=zak (st:=yi) xl_Purse__knock xw_Purse__knock xy_Purse__knock;have C_Purse__knock:zfj l.prog w K mg base _ c_Purse "knock" ["self"] _:=⟨_,_,⟨xj_Purse__knock,xi_Purse__knock,xy_Purse__knock⟩,j8 B FI_Purse__knock G_KNOCK I_Purse C_can_pay C_coins_by,(FI_Purse__knock.binds (ps:=["self"]) λ_ _ _ _ _ _ us hl=>by obtain⟨_,rfl⟩:=zkm hl;rfl)⟩
 have C_gone_by:=cal l.prog w base X G p4 (λ_ _ F=>zfq B F G_ASK I_Purse C_Purse____init__ C_Purse__ask C_Purse__knock C_Purse__held) (zbp λ_ _ _ _ _ _ _ _=>rfl);have C_gone_by_row:=zmb l.prog w base X G p5 (λ_ _ F=>zba B F G_MOST_DEEDS XF C_signs_good C_gone_by) (zbp λ_ _ _ _ _ _ _ _=>rfl);have C_coins_behind:=zmb l.prog w base X G p6 (λ_ _ F=>j9 B F  XF C_gone_by_row) (zbp λ_ _ _ _ _ _ _ _=>rfl);have C_unpaid_at:=zmb l.prog w base X G p8 (λ_ _ F=>zc4 B F  XF C_gone_by_row) (zbp λ_ _ _ _ _ _ _ _=>rfl);have C_paid_in:=zmb l.prog w base X G p7 (λ_ _ F=>zfr B F G_KNOCK XF C_unpaid_at) (zbp λ_ _ _ _ _ _ _ _=>rfl);have C__law_told:=cal l.prog w base X G p19 (λ_ _ F=>zc5 B F  XF C_coins_behind C_paid_in C_unpaid_at C__law_refusal) (zpq λ_ _ _ _ _ _ _ _ _=>rfl);exact zpo B F21  C__law_cell_at C__law_pen_of C__law_purse C__law_odd C__law_row C__law_bent C__law_walked C__law_told C__law_is_row
theorem walk{l:PySem.W.OpenLaw}{q:Program}{loose:List Str}{XP:(Str->Option Value)->Heap->Prop}{YP:World->Heap->Prop}{d:DefRec}{K:Params->PySem.W.Frag}(hn:l.most=some 63)(hdf:d.params.defaults = [])
  (hY:∀(w:World) (h:Heap),YP w h->(K w.params).In h)
  (F:∀(w:World) (mg:Str->Option Value) (fa:Addr) (h:Heap),(K w.params).In h->h.Ns mainGlobals mg->mg d.name=some (.ref fa) ->
   ∃fd:FuncData,(∀(s:Shared) (u:Value),BindsTo s fd ⟨[u],[]⟩ [("_law_script",u)])/\∀base:Heap,(K w.params).In base->base.Ns mainGlobals mg->FnOk l.prog w (K w.params) mg base CX0 9 fa fd ["_law_script"] (zx (K w.params) zc1)) :
  PySem.W.WalkO q loose XP YP l.row.toRowW d [] (λf vs=>PySem.call f vs) :=
 L2.walk_of (n:=63) (k:=9) (x := "_law_script") (CX:=λ_=>CX0) (sp:=λw=>zx (K w.params) zc1) hn (by decide) hdf ⟨rfl,by decide,by decide,rfl⟩ hY F (λ_ _ a ns hl _ hS=>⟨[.scr ns],λr=>r=.val (.bool true),.cons ⟨a,rfl,hS⟩ .nil,⟨ns,rfl,hl,rfl⟩,λv H' r _ rp e=>by subst e;cases rp;rfl⟩) λ_ _ _ _ _ z=>z
end My
namespace PySem.W.Fast
def tw5650979130542099266:=()
def tw17028750380941813666:=()
def tw3808445763342483545:=()
def tw5752045468603277451:=()
def tw7893695644212885934:=()
def tw12096393995546580273:=()
def tw17933048388048907093:=()
def tw104717747273372291:=()
def tw4854719246044302351:=()
def tw8316877810614310984:=()
def tw10129684050507053519:=()
def tw16346357148447873896:=()
def tw14864348491747718319:=()
def tw9234172059571156435:=()
def tw4429511128385002723:=()
def tw7854042005674734056:=()
def tw13062003543713081410:=()
def tw9026656891087129248:=()
def tw11820622300528380393:=()
def tw2667998763190340873:=()
def tw8474450360501328174:=()
def tw7758627496257780515:=()
def tw10279301814553420712:=()
def tw3433498061820942123:=()
def tw13305406554273547623:=()
def tw4904034981578722723:=()
def tw12249290893225345920:=()
def tw16670831076578338006:=()
def tw4318237811085536822:=()
def tw6579553025648262114:=()
def tw12988317517379565262:=()
def tw16429620893095907042:=()
def tw1951833727679446721:=()
def tw5621360973685096958:=()
def tw13672054280480061060:=()
def tw6127869635628083001:=()
def tw8097199143721965894:=()
def tw6384720796521001240:=()
def tw9158191162407867489:=()
def tw4894327875090050294:=()
def tw11284023845023907468:=()
def tw1351936282784074600:=()
def tw17571526688944435569:=()
def tw10004550224155211810:=()
def tw684034896103918687:=()
def tw8161805496468151023:=()
def tw7550229104002550291:=()
def tw12526526571923391148:=()
def tw6533833370326669026:=()
def tw10948704395613048036:=()
def tw15094819903769061494:=()
def tw5754534836853406608:=()
def tw11354510065474630547:=()
def tw8718492601510243932:=()
def tw12945827735674691:=()
def tw16802092258719659276:=()
def tw14826454566928048783:=()
def tw11914854424406638775:=()
def tw5021427915321648231:=()
def tw3545597044841520409:=()
def tw1660563766813851691:=()
def tw636498836860587582:=()
def tw14478600455031612483:=()
def tw7663302234762217172:=()
def tw15549465402865798702:=()
def tw9501991662995192619:=()
def tw265429165041414859:=()
def tw11578414493776886111:=()
def tw15447443621853100875:=()
def tw3256760966466650789:=()
def tw15075217516355383202:=()
def tw6631035227760939824:=()
def tw13239191459483290091:=()
def tw12753293103312268386:=()
def tw15572194858187454122:=()
def tw4792265254095641832:=()
def tw2842865738515087399:=()
def tw17614509525032883682:=()
def tw12723832363373424234:=()
def tw6929055682609411138:=()
def tw4306013627293277855:=()
def tw15295507582448536045:=()
def tw5096993401242012571:=()
def tw1954802636585553149:=()
def tw3685511219255276870:=()
def tw14889855502423338044:=()
def tw10807868790103579029:=()
def tw9981606333987427864:=()
def tw12030198240585561524:=()
def tw7728340839805036202:=()
def tw8365327698027349268:=()
def tw10406297551188239886:=()
def tw2569161781974999037:=()
def tw1519520965575046993:=()
def tw15612132581197466281:=()
def tw10059745885916920215:=()
def tw9354113852246673869:=()
def tw8236499911485620600:=()
end PySem.W.Fast
open PySem PySem.W PyProof.Rows
local macro_rules|`(tactic| walk_at "fn")=>`(tactic|(refine' My.fn_at ?a ?l ?c ?k;(case a=>k_is);(case l=>k_is);(case c=>k_is);(case k=>k_is)))
set_option maxRecDepth 100000 in
set_option maxHeartbeats 0 in
theorem PySem.Challenge.cw_knockpurse_k32_rows_of_deeds_holds : PySem.Challenge.rw_knockpurse_k32_rows_of_deeds.Holds := by
 w_on;o_law;k_head;(case hw=>w_witness2)
 k_fill
 refine My.walk (l:=PySem.Challenge.rw_knockpurse_k32_rows_of_deeds) rfl rfl (λw h Y=>PySem.W.kIn_of Y) ?F
 case F=>
  intro w mg fa h KX G hmg
  refine' My.all_mk KX G hmg ?p0 ?p1 ?p2 ?p3 ?p4 ?p5 ?p6 ?p7 ?p8 ?p9 ?p10 ?p11 ?p12 ?p13 ?p14 ?p15 ?p16 ?p17 ?p18 ?p19 ?p20 ?p21 ?z_len ?z_range ?z_enumerate ?z_min ?z_max ?z_repr ?z_isinstance ?z_all ?z_intT ?z_listT ?z_strT ?z_ValueError ?z_LookupError ?z_TypeError ?z_ArithmeticError ?z_RuntimeError ?y_ASK ?y_KNOCK ?y_MOST_DEEDS ?xa_NoStep ?xa_KnockError ?xa_NoBeat ?xa_NoNumber ?xa_NoLine ?xa_NoStory ?xa_NoText ?xa_TooGreat ?xd_NoStep ?xt_NoStep ?xd_KnockError ?xt_KnockError ?xd_NoBeat ?xt_NoBeat ?xd_NoNumber ?xt_NoNumber ?xd_NoLine ?xt_NoLine ?xd_NoStory ?xt_NoStory ?xd_NoText ?xt_NoText ?xd_TooGreat ?xt_TooGreat ?xsp ?xtk ?xkb ?xe_NoStep ?xg_NoStep ?xh_NoStep ?xo_NoStep ?xf_NoStep ?xm_NoStep ?xs_NoStep_KnockError ?xs_NoStep_NoBeat ?xn_NoStep_NoBeat ?xs_NoStep_NoNumber ?xn_NoStep_NoNumber ?xs_NoStep_NoLine ?xn_NoStep_NoLine ?xs_NoStep_NoStory ?xn_NoStep_NoStory ?xs_NoStep_NoText ?xn_NoStep_NoText ?xs_NoStep_TooGreat ?xn_NoStep_TooGreat ?xb_NoStep_ValueError ?xb_NoStep_LookupError ?xb_NoStep_TypeError ?xb_NoStep_ArithmeticError ?xb_NoStep_RuntimeError ?xa_Purse ?xpg_Purse ?xhd_Purse ?xpo_Purse ?xsa_Purse ?xmk_Purse ?xkc_Purse ?xnf_Purse_purse ?xnf_Purse_coins ?xj_Purse____init__ ?xi_Purse____init__ ?xl_Purse____init__ ?xw_Purse____init__ ?xy_Purse____init__ ?xj_Purse__ask ?xi_Purse__ask ?xl_Purse__ask ?xw_Purse__ask ?xy_Purse__ask ?xj_Purse__knock ?xi_Purse__knock ?xl_Purse__knock ?xw_Purse__knock ?xy_Purse__knock ?xj_Purse__held ?xi_Purse__held ?xl_Purse__held ?xw_Purse__held ?xy_Purse__held
  (case p0=>walk_at "fn")
  (case p1=>walk_at "fn")
  (case p2=>walk_at "fn")
  (case p3=>walk_at "fn")
  (case p4=>walk_at "fn")
  (case p5=>walk_at "fn")
  (case p6=>walk_at "fn")
  (case p7=>walk_at "fn")
  (case p8=>walk_at "fn")
  (case p9=>walk_at "fn")
  (case p10=>walk_at "fn")
  (case p11=>walk_at "fn")
  (case p12=>walk_at "fn")
  (case p13=>walk_at "fn")
  (case p14=>walk_at "fn")
  (case p15=>walk_at "fn")
  (case p16=>walk_at "fn")
  (case p17=>walk_at "fn")
  (case p18=>walk_at "fn")
  (case p19=>walk_at "fn")
  (case p20=>walk_at "fn")
  (case p21=>walk_at "fn")
  (case z_len=>k_is)
  (case z_range=>k_is)
  (case z_enumerate=>k_is)
  (case z_min=>k_is)
  (case z_max=>k_is)
  (case z_repr=>k_is)
  (case z_isinstance=>k_is)
  (case z_all=>k_is)
  (case z_intT=>k_is)
  (case z_listT=>k_is)
  (case z_strT=>k_is)
  (case z_ValueError=>k_is)
  (case z_LookupError=>k_is)
  (case z_TypeError=>k_is)
  (case z_ArithmeticError=>k_is)
  (case z_RuntimeError=>k_is)
  (case y_ASK=>k_is)
  (case y_KNOCK=>k_is)
  (case y_MOST_DEEDS=>k_is)
  (case xa_NoStep=>k_is)
  (case xa_KnockError=>k_is)
  (case xa_NoBeat=>k_is)
  (case xa_NoNumber=>k_is)
  (case xa_NoLine=>k_is)
  (case xa_NoStory=>k_is)
  (case xa_NoText=>k_is)
  (case xa_TooGreat=>k_is)
  (case xd_NoStep=>k_is)
  (case xt_NoStep=>k_is)
  (case xd_KnockError=>k_is)
  (case xt_KnockError=>k_is)
  (case xd_NoBeat=>k_is)
  (case xt_NoBeat=>k_is)
  (case xd_NoNumber=>k_is)
  (case xt_NoNumber=>k_is)
  (case xd_NoLine=>k_is)
  (case xt_NoLine=>k_is)
  (case xd_NoStory=>k_is)
  (case xt_NoStory=>k_is)
  (case xd_NoText=>k_is)
  (case xt_NoText=>k_is)
  (case xd_TooGreat=>k_is)
  (case xt_TooGreat=>k_is)
  (case xsp=>k_is)
  (case xtk=>k_is)
  (case xkb=>k_is)
  (case xe_NoStep=>k_exc)
  (case xg_NoStep=>k_is)
  (case xh_NoStep=>k_is)
  (case xo_NoStep=>k_is)
  (case xf_NoStep=>k_is)
  (case xm_NoStep=>k_is)
  (case xs_NoStep_KnockError=>k_is)
  (case xs_NoStep_NoBeat=>k_is)
  (case xn_NoStep_NoBeat=>decide)
  (case xs_NoStep_NoNumber=>k_is)
  (case xn_NoStep_NoNumber=>decide)
  (case xs_NoStep_NoLine=>k_is)
  (case xn_NoStep_NoLine=>decide)
  (case xs_NoStep_NoStory=>k_is)
  (case xn_NoStep_NoStory=>decide)
  (case xs_NoStep_NoText=>k_is)
  (case xn_NoStep_NoText=>decide)
  (case xs_NoStep_TooGreat=>k_is)
  (case xn_NoStep_TooGreat=>decide)
  (case xb_NoStep_ValueError=>k_is)
  (case xb_NoStep_LookupError=>k_is)
  (case xb_NoStep_TypeError=>k_is)
  (case xb_NoStep_ArithmeticError=>k_is)
  (case xb_NoStep_RuntimeError=>k_is)
  (case xa_Purse=>k_is)
  (case xpg_Purse=>k_is)
  (case xhd_Purse=>k_is)
  (case xpo_Purse=>k_is)
  (case xsa_Purse=>k_is)
  (case xmk_Purse=>k_is)
  (case xkc_Purse=>k_is)
  (case xnf_Purse_purse=>k_is)
  (case xnf_Purse_coins=>k_is)
  (case xj_Purse____init__=>k_is)
  (case xi_Purse____init__=>k_is)
  (case xl_Purse____init__=>k_is)
  (case xw_Purse____init__=>k_is)
  (case xy_Purse____init__=>k_is)
  (case xj_Purse__ask=>k_is)
  (case xi_Purse__ask=>k_is)
  (case xl_Purse__ask=>k_is)
  (case xw_Purse__ask=>k_is)
  (case xy_Purse__ask=>k_is)
  (case xj_Purse__knock=>k_is)
  (case xi_Purse__knock=>k_is)
  (case xl_Purse__knock=>k_is)
  (case xw_Purse__knock=>k_is)
  (case xy_Purse__knock=>k_is)
  (case xj_Purse__held=>k_is)
  (case xi_Purse__held=>k_is)
  (case xl_Purse__held=>k_is)
  (case xw_Purse__held=>k_is)
  (case xy_Purse__held=>k_is)
