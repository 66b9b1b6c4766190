import PyProof.Rows.All
import PyProof.StrReplace2
import Wide.All
import OpenK.AllK
import Wide.FinOn
import Lean
import PyProof.EqAt
import PyProof.EqKinds
import PyProof.TupleCall
import PyProof.ListMulRoad
import PyProof.Lay0
import PyProof.Rows.EqDataRows
import PyProof.ReprRoads
import PyProof.Rows.MinMaxN
import PyProof.ReprLen
import PyProof.FitsInt
import PyProof.MinMaxWalk
import KE.KRevSl
import KE.KRevIter
import PyProof.ListRange
import PyProof.Sched
import PyProof.Rows.SortShellK
import PyProof.Rows.SortRunK
import PyProof.Rows.SortRuns
import PyProof.TupleOfSeq
import PyProof.RulesAs
import OpenK.KDescr
import OpenK.KOwn
import KE.KIsNot
import KE.KIsAll
import PyProof.Rows.SetFrom
import PyProof.WalksMore
import PyProof.CollectWalk
import KE.KLam
import KE.KMinKey
import KE.KSortKey
import KE.KDictList
import KE.KDictOf
import PyProof.Rows.Range3
import PyProof.FactsAll.range
import PyProof.Rows.StrLen
import PyProof.Rows.StrCase
import PyProof.StrBlock2
import PyProof.Rows.StrRules
import PyProof.Rows.RegReprOcc
import PyProof.AttrMissSeq
import PyProof.DictWalks
import KE.KEqDict
import PyProof.ExcInit
import PyProof.ExcClass3
import PyProof.InstStoreFacts
import PySem.Challenge.RW_knockpurse_k56_whole_roads
set_option Elab.async false
set_option linter.all false
set_option maxRecDepth 100000
namespace L2
open PySem PySem.Spec PyProof.Rows
abbrev Key:=Sum Int Str
def zeb:Key->Value->Bool
 |.inl k,v=>Value.isInt k v
 |.inr x,v=>Value.isStrOf x v
def zvu(w:World):Key->Int
 |.inl k=>hashInt k
 |.inr x=>hashStr w x
theorem xp:∀{k:Key}{v:Value},zeb k v=true->(∃i t,k=Sum.inl i/\v=Value.int i t)\/(∃x t,k=Sum.inr x/\v=Value.str x t)
 |.inl i,v,h=>by
  obtain⟨t,e⟩:=Value.isInt_shape (k:=i) (v:=v) h;exact .inl ⟨i,t,rfl,e⟩
 |.inr x,v,h=>by
  obtain⟨t,e⟩:=Value.isStrOf_shape (x:=x) (v:=v) h;exact .inr ⟨x,t,rfl,e⟩
theorem zko(i:Int)(t:Tok):zeb (.inl i) (.int i t)=true:=by simp[zeb,Value.isInt]
theorem zkp(x:Str)(t:Tok):zeb (.inr x) (.str x t)=true:=by simp[zeb,Value.isStrOf]
theorem zrc(a b:Int):decide ((Sum.inl a:Key)=Sum.inl b)=(a == b):=by
 by_cases e:a=b
 ·subst e;simp
 ·have h:¬ (Sum.inl a:Key)=Sum.inl b:=λq=>e (Sum.inl.inj q);rw[decide_eq_false h];exact(beq_eq_false_iff_ne.mpr e).symm
theorem zrd(a b:Str):decide ((Sum.inr a:Key)=Sum.inr b)=decide (a=b):=by
 by_cases e:a=b
 ·subst e;simp
 ·have h:¬ (Sum.inr a:Key)=Sum.inr b:=λq=>e (Sum.inr.inj q);rw[decide_eq_false h,decide_eq_false e]
theorem zre(a:Int)(b:Str):decide ((Sum.inl a:Key)=Sum.inr b)=false:=decide_eq_false (λq=>nomatch q)
theorem zrf(a:Str)(b:Int):decide ((Sum.inr a:Key)=Sum.inl b)=false:=decide_eq_false (λq=>nomatch q)
def wd(prog:Program)(w:World):PySem.KeyKind prog w Key where
 is:=zeb
 hash:=zvu w
 inj:=λv a b ha hb=>by
  rcases xp ha with⟨i,t,rfl,rfl⟩ |⟨x,t,rfl,rfl⟩
  ·rcases xp hb with⟨j,u,rfl,e⟩ |⟨y,u,rfl,e⟩
   ·injection e with e1 _;rw[e1]
   ·exact nomatch e
  ·rcases xp hb with⟨j,u,rfl,e⟩ |⟨y,u,rfl,e⟩
   ·exact nomatch e
   ·injection e with e1 _;rw[e1]
 byValue:=λk v h=>by
  rcases xp h with⟨i,t,rfl,rfl⟩ |⟨x,t,rfl,rfl⟩ <;> rfl
 pyHash:=λhv h=>by
  rcases xp hv with⟨i,t,rfl,rfl⟩ |⟨x,t,rfl,rfl⟩
  ·exact wpAny_pyHash_int h
  ·exact wpAny_pyHash_str h
 eqBool:=λhu hv h=>by
  rcases xp hu with⟨i,t,rfl,rfl⟩ |⟨x,t,rfl,rfl⟩
  ·rcases xp hv with⟨j,u,rfl,rfl⟩ |⟨y,u,rfl,rfl⟩
   ·rw[zrc]at h;exact wpAny_eqBool_int h
   ·rw[zre]at h;exact SeqAt.EqAt.int_str i t y u _ _ _ _ h
  ·rcases xp hv with⟨j,u,rfl,rfl⟩ |⟨y,u,rfl,rfl⟩
   ·rw[zrf]at h;exact SeqAt.EqAt.str_int x t j u _ _ _ _ h
   ·rw[zrd]at h;exact wpAny_eqBool_str h
 «strs»:=λk x t v h=>by
  rcases xp h with⟨i,u,rfl,e⟩ |⟨y,u,rfl,e⟩
  ·exact nomatch e
  ·injection e with e1 _
   subst e1
   cases v <;> rfl
theorem zgd(prog:Program)(w:World)(i:Int)(t:Tok):(wd prog w).is (.inl i) (.int i t)=true:=zko i t
theorem zge(prog:Program)(w:World)(x:Str)(t:Tok):(wd prog w).is (.inr x) (.str x t)=true:=zkp x t
inductive V where
 |non|bl (b:Bool)|int (i:Int)|str (x:Str)|byt (b:Array UInt8)|flt (b:UInt64)|ref (a:Addr)|ty (n:String)
 deriving DecidableEq
def RelV:V->Value->Prop
 |.non,u=>u=Value.none
 |.bl b,u=>u=Value.bool b
 |.int i,u=>∃t,u=Value.int i t
 |.str x,u=>∃t,u=Value.str x t
 |.byt b,u=>∃t,u=Value.bytes b t
 |.flt b,u=>∃t,u=Value.float b t
 |.ref a,u=>u=Value.ref a
 |.ty n,u=>u=Value.type n
abbrev Vals:List V->List Value->Prop:=Paired RelV
theorem Vals.length{xs:List V}{us:List Value}(r:Vals xs us):xs.length=us.length:=Paired.length r
theorem Vals.get:∀{xs:List V}{us:List Value}{i:Nat}{x:V},Vals xs us->xs[i]?=some x->∃u,us[i]?=some u/\RelV x u
 |_,_,_,_,.nil,e=>by simp at e
 |_,_,0,_,.cons r _,e=>by simp at e;subst e;exact⟨_,rfl,r⟩
 |_,_,i+1,x,.cons _ t,e=>by
  obtain⟨u,h1,h2⟩:=Vals.get (i:=i) (x:=x) t (by simpa using e);exact⟨u,by simpa using h1,h2⟩
theorem Vals.set{x:V}{u:Value}(r:RelV x u):∀{xs:List V}{us:List Value} (i:Nat),Vals xs us->Vals (xs.set i x) (us.set i u)
 |_,_,_,.nil=>.nil
 |_,_,0,.cons _ t=>.cons r t
 |_,_,i+1,.cons q t=>.cons q (Vals.set r i t)
theorem Vals.append:∀{xs ys:List V}{us ws:List Value},Vals xs us->Vals ys ws->Vals (xs++ys) (us++ws)
 |_,_,_,_,.nil,s=>s
 |_,_,_,_,.cons r t,s=>.cons r (Vals.append t s)
theorem Vals.take:∀{xs:List V}{us:List Value} (n:Nat),Vals xs us->Vals (xs.take n) (us.take n)
 |_,_,0,_=>.nil
 |_,_,_+1,.nil=>.nil
 |_,_,n+1,.cons r t=>.cons r (Vals.take n t)
theorem Vals.drop:∀{xs:List V}{us:List Value} (n:Nat),Vals xs us->Vals (xs.drop n) (us.drop n)
 |_,_,0,r=>r
 |_,_,_+1,.nil=>.nil
 |_,_,n+1,.cons _ t=>Vals.drop n t
def RelO:Option V->Option Value->Prop
 |some v,some u=>RelV v u
 |none,none=>True
 |_,_=>False
def KV{κ:Type}:List (κ×V)->List (κ×Value)->Prop:=Paired λ(p:κ×V) (q:κ×Value)=>p.1=q.1/\RelV p.2 q.2
def kV:Key->V
 |.inl i=>.int i
 |.inr x=>.str x
inductive HO where
  |lst (xs:List V)
  |tup (xs:List V)
  |dK (kvs:List (Key×V))|dT (kvs:List (List Key×V))
  |set (S:Int->Bool) (n:Nat)
  |ins (C dx:Addr) (fs:List (Str×V))
  |own (x:Addr)
  |xd (fs:List (Str×V))
  |met (f x:Addr)
  |rng (lo hi:Int)
  |frz (o:Obj) (u:HO)
  |tbl (ps:Array Value)
  |ext (φ:Heap->Prop)
abbrev Hp:=Addr->Option HO
def upd(H:Hp)(a:Addr)(o:HO):Hp:=λb=>if b=a then some o else H b
theorem zp{H:Hp}{a:Addr}{o:HO}:upd H a o a=some o:=by unfold upd;rw[if_pos rfl]
theorem zn{H:Hp}{a b:Addr}{o:HO}(h:b≠a):upd H a o b=H b:=by unfold upd;rw[if_neg h]
theorem zgf{H:Hp}{a b:Addr}{o u:HO}(h:H a=some o)(h':H b=some u)(d:o≠u):a≠b:=by
 intro e;subst e;rw[h]at h';exact d (Option.some.inj h')
theorem yj{H:Hp}{a b:Addr}{o:HO}(h:H a=some o)(h':H b=none):a≠b:=by
 intro e;subst e;rw[h]at h';cases h'
def TupD(h:Heap)(a:Addr)(items:Array Value):Prop:=∃o,h.get? a=some o/\o.cls=.type "tuple" /\(∃n,o.data=.seq items n)/\o.dict=none
theorem TupD.isTup{h:Heap}{a:Addr}{items:Array Value}(x:TupD h a items):IsTup h a items:=let ⟨o,e,c,d,_⟩:=x;⟨o,e,c,d⟩
theorem TupD.lt{h:Heap}{a:Addr}{items:Array Value}(x:TupD h a items):a<h.objs.size:=x.isTup.lt
theorem TupD.new(h:Heap)(items:Array Value):TupD (h.push { cls:=.type "tuple",data:=.seq items }) h.objs.size items:=⟨_,Heap.get?_push_size _ rfl,rfl,⟨_,rfl⟩,rfl⟩
def zi9(oc:Obj)(q:Str):Prop:=∃vs t,oc.data=.fields vs/\vs[1]?=some (.str q t)
def zgg(H:Hp)(h:Heap)(a:Addr)(lab:Array Value):Prop:=∃(ps:Array Value) (q:Str) (t:Tok),lab = #[.str q t]/\h.get? a=some { cls:=.none,data:=.fields ps }/\TriplesOk ps.toList /\
 ∀pos cv,codeAmong pos ps.toList=some cv->∃c' oc u,cv=.ref c'/\H c'=some (.frz oc u)/\zi9 oc q
section
variable (P:Program)(w:World)
def ObjOk(H:Hp)(h:Heap)(a:Addr):HO->Prop
 |.lst xs=>xs.length<=sizeLine/\∃(its:List Value) (n:Nat),Vals xs its/\h.get? a=some { cls:=.type "list",data:=.seq its.toArray n }
 |.tup xs=>xs.length<=sizeLine/\∃its:List Value,Vals xs its/\TupD h a its.toArray
 |.dK kvs=>kvs.length<=sizeLine/\(a == sysModules)=false/\∃vs,KV kvs vs/\h.DictOf (wd P w) a vs
 |.dT kvs=>kvs.length<=sizeLine/\(a == sysModules)=false/\∃xs:List (List Key×Addr×Value),
   Paired (λ(p:List Key×V) (q:List Key×Addr×Value)=>p.1=q.1/\H q.2.1=some (.tup (p.1.map kV))/\RelV p.2 q.2.2) kvs xs /\
   ∃o es ep,h.get? a=some o/\o.ExactDict/\o.data=.dict es ep/\es.toList=xs.map (entryOfKey (tupleKind (wd P w)))/\(xs.map (·.1)).Nodup
 |.set S n=>h.SetOf (intKind P w) a S n
 |.ins C dx fs=>H dx=some (.own a)/\fs.length<=1000/\dx≠a/\h.get? a=some (PySem.W.instObj C dx) /\
   ∃mA,h.Ns1 dx mA/\(∀f,RelO (fs.lookup f) (mA f))/\PySem.Within mA (fs.map (·.1))
 |.own _=>∃o,h.get? a=some o
 |.xd fs=>∃mA,h.Ns1 a mA/\∀f,RelO (fs.lookup f) (mA f)
 |.rng lo hi=>∃t u v,h.get? a=some { cls:=.type "range",data:=.fields #[.int lo t,.int hi u,.int 1 v] }
 |.frz o u=>h.get? a=some o/\ObjOk H h a u
 |.tbl ps=>zgg H h a ps
 |.met f x=>h.get? a=some (PySem.W.methodObj (.ref f) (.ref x))
 |.ext φ=>φ h/\(∃o,h.get? a=some o)/\∀h1 h2:Heap,φ h1->(∀o,h1.get? a=some o->h2.get? a=some o)->φ h2
def HOk(H:Hp)(h:Heap):Prop:=∀a o,H a=some o->ObjOk P w H h a o
end
section
variable {P:Program}{w:World}{H H':Hp}{h h':Heap}{a:Addr}{o:HO}
theorem ObjOk.lt(x:ObjOk P w H h a o):a<h.objs.size:=by
 cases o with
 |lst xs=>obtain⟨_,_,_,_,e⟩:=x;exact Heap.lt_size e
 |tup xs=>obtain⟨_,_,_,p⟩:=x;exact p.lt
 |dK kvs=>obtain⟨_,_,_,_,o,_,_,e,_⟩:=x;exact Heap.lt_size e
 |dT kvs=>obtain⟨_,_,_,_,o,_,_,e,_⟩:=x;exact Heap.lt_size e
 |set S n=>obtain⟨o,_,_,_,e,_⟩:=x;exact Heap.lt_size e
 |ins C dx fs=>obtain⟨_,_,_,e,_⟩:=x;exact Heap.lt_size e
 |own y=>obtain⟨_,e⟩:=x;exact Heap.lt_size e
 |xd fs=>obtain⟨_,⟨_,_,_,e,_⟩,_⟩:=x;exact Heap.lt_size e
 |rng lo hi=>obtain⟨_,_,_,e⟩:=x;exact Heap.lt_size e
 |frz ob u=>obtain⟨e,_⟩:=x;exact Heap.lt_size e
 |tbl ps=>obtain⟨_,_,_,_,e,_⟩:=x;exact Heap.lt_size e
 |met f y=>exact Heap.lt_size (show h.get? a=some _ from x)
 |ext φ=>obtain⟨_,⟨_,e⟩,_⟩:=x;exact Heap.lt_size e
theorem Paired.mapP{α β:Type}{F G:α->β->Prop}:∀{l₁:List α}{l₂:List β},Paired F l₁ l₂->(∀a b,F a b->G a b)->Paired G l₁ l₂
 |_,_,.nil,_=>.nil
 |_,_,.cons r t,f=>.cons (f _ _ r) (Paired.mapP t f)
theorem ObjOk.stay(x:ObjOk P w H h a o)(k:∀b u,(b=a\/H b=some (.own a))->h.get? b=some u->h'.get? b=some u)
  (ho:∀b,H b=some (.own a)->H' b=some (.own a)) (ht:∀b xs,H b=some (.tup xs)->H' b=some (.tup xs)) (hf:∀b o u,H b=some (.frz o u)->H' b=some (.frz o u):=by exact λ_ _ _ q=>q):ObjOk P w H' h' a o:=by
 induction o with
 |lst xs=>obtain⟨z,its,n,r,e⟩:=x;exact⟨z,its,n,r,k _ _ (.inl rfl) e⟩
 |tup xs=>obtain⟨z,its,r,ob,e,c⟩:=x;exact⟨z,its,r,ob,k _ _ (.inl rfl) e,c⟩
 |dK kvs=>obtain⟨z,y,vs,r,ob,es,ep,e,c⟩:=x;exact⟨z,y,vs,r,ob,es,ep,k _ _ (.inl rfl) e,c⟩
 |dT kvs=>
  obtain⟨z,y,xs,r,ob,es,ep,e,c⟩:=x;exact⟨z,y,xs,Paired.mapP r λp q z=>⟨z.1,ht _ _ z.2.1,z.2.2⟩,ob,es,ep,k _ _ (.inl rfl) e,c⟩
 |set S n=>obtain⟨ob,es,ep,t,e,c⟩:=x;exact⟨ob,es,ep,t,k _ _ (.inl rfl) e,c⟩
 |ins C dx fs=>
  obtain⟨d,z,ne,e,mA,⟨od,es,ep,e2,c⟩,r⟩:=x;exact⟨ho _ d,z,ne,k _ _ (.inl rfl) e,mA,⟨od,es,ep,k _ _ (.inr d) e2,c⟩,r⟩
 |own y=>obtain⟨ob,e⟩:=x;exact⟨ob,k _ _ (.inl rfl) e⟩
 |xd fs=>obtain⟨mA,⟨od,es,ep,e,c⟩,r⟩:=x;exact⟨mA,⟨od,es,ep,k _ _ (.inl rfl) e,c⟩,r⟩
 |rng lo hi=>obtain⟨t,u,v,e⟩:=x;exact⟨t,u,v,k _ _ (.inl rfl) e⟩
 |frz ob u ih=>obtain⟨e,q⟩:=x;exact⟨k _ _ (.inl rfl) e,ih q⟩
 |tbl ps=>
  obtain⟨rs,q,t,z,e,tr,r⟩:=x;exact⟨rs,q,t,z,k a _ (.inl rfl) e,tr,λpos cv y=>let ⟨c',oc,u,r1,r2,r3⟩:=r pos cv y;⟨c',oc,u,r1,hf _ _ _ r2,r3⟩⟩
 |met f y=>
  have e:h.get? a=some (PySem.W.methodObj (.ref f) (.ref y)):=x;show h'.get? a=some (PySem.W.methodObj (.ref f) (.ref y));exact k a _ (.inl rfl) e
 |ext φ=>obtain⟨p,⟨o,e⟩,st⟩:=x;exact⟨st _ _ p λo q=>k _ _ (.inl rfl) q,⟨o,k _ _ (.inl rfl) e⟩,st⟩
theorem HOk.lt(x:HOk P w H h)(e:H a=some o):a<h.objs.size:=(x a o e).lt
theorem HOk.fresh(x:HOk P w H h)(e:h.objs.size<=a):H a=none:=by
 cases q:H a with
 |none=>rfl
 |some u=>exact absurd (Nat.lt_of_lt_of_le (x.lt q) e) (Nat.lt_irrefl _)
theorem HOk.kept(x:HOk P w H h)(k:∀b u,h.get? b=some u->h'.get? b=some u):HOk P w H h':=λa o e=>
 (x a o e).stay (λb u _ q=>k b u q) (λ_ q=>q) λ_ _ q=>q
theorem HOk.laid(x:HOk P w H h)(k:∀b u,h.get? b=some u->h'.get? b=some u)(hp:h.objs.size<=a)(new:ObjOk P w (upd H a o) h' a o):HOk P w (upd H a o) h':=λb u e=>by
 have hn:=x.fresh hp
 by_cases hb:b=a
 ·subst hb;rw[zp]at e;cases e;exact new
 ·rw[zn hb]at e;exact(x b u e).stay (λc v _ q=>k c v q) (λc q=>by rw[zn (yj q hn)];exact q) (λc xs q=>by rw[zn (yj q hn)];exact q) λc _ _ q=>by rw[zn (yj q hn)];exact q
end
def Rd(H:Hp)(a:Addr)(u:HO):Prop:=H a=some u\/∃o,H a=some (.frz o u)
theorem Rd.of{H:Hp}{a:Addr}{u:HO}(h:H a=some u):Rd H a u:=.inl h
theorem Rd.ok{P:Program}{w:World}{H:Hp}{h:Heap}{a:Addr}{u:HO}(r:Rd H a u)(x:HOk P w H h):ObjOk P w H h a u:=by
 rcases r with r |⟨o,r⟩
 ·exact x a u r
 ·obtain⟨_,q⟩:=x a _ r;exact q
def Mut:Option HO->Prop
 |some (.lst _)=>True
 |some (.dK _)=>True
 |some (.dT _)=>True
 |some (.set _ _)=>True
 |some (.ins _ _ _)=>True
 |some (.ext _)=>True
 |_=>False
section
variable {P:Program}{w:World}{H:Hp}{h h':Heap}{x e:Addr}{o':HO}
theorem HOk.write(ok:HOk P w H h)(mu:Mut (H x))(he:e=x\/H e=some (.own x))(k:∀b u,b≠e->h.get? b=some u->h'.get? b=some u)(heo:∃u,h'.get? e=some u)
  (new:ObjOk P w (upd H x o') h' x o'):HOk P w (upd H x o') h':=λb u q=>by
 have nown:∀c y,H c=some (.own y)->c≠x:=λc y r z=>by subst z;rw[r]at mu;exact mu
 have ntup:∀c xs,H c=some (.tup xs)->c≠x:=λc xs r z=>by subst z;rw[r]at mu;exact mu
 have nfrz:∀c o u,H c=some (.frz o u)->c≠x:=λc o u r z=>by subst z;rw[r]at mu;exact mu
 by_cases hb:b=x
 ·subst hb;rw[zp]at q;cases q;exact new
 ·rw[zn hb]at q
  by_cases hbe:b=e
  ·have q':H b=some (.own x):=by
    rcases he with z|z
    ·exact absurd (hbe.trans z) hb
    ·rw[hbe];exact z
   rw[q]at q';cases q';obtain⟨v,hv⟩:=heo;exact⟨v,by rw[hbe];exact hv⟩
  ·refine(ok b u q).stay (λc v hc r=>k c v ?_ r) (λc r=>by rw[zn (nown c b r)];exact r) (λc xs r=>by rw[zn (ntup c xs r)];exact r) (λc o u r=>by rw[zn (nfrz c o u r)];exact r);rcases hc with rfl|hc
   ·exact hbe
   ·rintro rfl;rcases he with z|z
    ·exact nown c b hc z
    ·rw[hc]at z;cases z;exact hb rfl
end
structure Un(fs ex:List Addr)(H H':Hp)(h h':Heap):Prop where
 keep:∀b o,h.get? b=some o->H b=none->b∉fs->b∉ex->h'.get? b=some o
 slot:∀b o,h.get? b=some o->H b=none->b∈fs->b∉ex->∃sl,h'.get? b=some { o with slots:=sl }
 free:∀b o,h.get? b=some o->H b=none->b∉ex->H' b=none
 there:∀b o,h.get? b=some o->b∉ex->∃o',h'.get? b=some o'
 tups:∀b xs,H b=some (.tup xs)->H' b=some (.tup xs)
 frzs:∀b o u,H b=some (.frz o u)->H' b=some (.frz o u)
 tbls:∀b ps,H b=some (.tbl ps)->∃more,H' b=some (.tbl (ps++more))
section
variable {fs fs' ex ex':List Addr}{H H1 H2:Hp}{h h1 h2 h':Heap}{a x e:Addr}{o:HO}
theorem Un.any(u:Un fs ex H H1 h h1){b:Addr}{ob:Obj}(q:h.get? b=some ob)(n:H b=none)(hx:b∉ex):∃sl,h1.get? b=some { ob with slots:=sl }:=by
 by_cases hb:b∈fs
 ·exact u.slot b ob q n hb hx
 ·exact⟨ob.slots,u.keep b ob q n hb hx⟩
theorem Un.trans(a:Un fs ex H H1 h h1)(b:Un fs ex H1 H2 h1 h2):Un fs ex H H2 h h2 where
 keep:=λc ob q n hc hx=>b.keep c ob (a.keep c ob q n hc hx) (a.free c ob q n hx) hc hx
 slot:=λc ob q n hc hx=>by
  obtain⟨sl,e1⟩:=a.slot c ob q n hc hx;obtain⟨sl',e2⟩:=b.slot c _ e1 (a.free c ob q n hx) hc hx;exact⟨sl',e2⟩
 free:=λc ob q n hx=>by
  obtain⟨o',e1⟩:=a.there c ob q hx;exact b.free c o' e1 (a.free c ob q n hx) hx
 there:=λc ob q hx=>by
  obtain⟨o',e1⟩:=a.there c ob q hx;exact b.there c o' e1 hx
 tups:=λc xs q=>b.tups c xs (a.tups c xs q)
 frzs:=λc ob xs q=>b.frzs c ob xs (a.frzs c ob xs q)
 tbls:=λc ps q=>by
  obtain⟨m1,e1⟩:=a.tbls c ps q;obtain⟨m2,e2⟩:=b.tbls c _ e1;exact⟨m1++m2,by rw[e2,Array.append_assoc]⟩
theorem Un.kept(k:∀b u,h.get? b=some u->h'.get? b=some u):Un fs ex H H h h' :=
 ⟨λb ob q _ _ _=>k b ob q,λb ob q _ _ _=>⟨ob.slots,k b ob q⟩,λ_ _ _ n _=>n,λb ob q _=>⟨ob,k b ob q⟩,λ_ _ q=>q,λ_ _ _ q=>q,λ_ ps q=>⟨#[],by rw[q];simp⟩⟩
theorem Un.refl:Un fs ex H H h h:=Un.kept λ_ _ q=>q
theorem Un.laid(k:∀b u,h.get? b=some u->h'.get? b=some u)(hp:h.objs.size<=a)(hn:H a=none):Un fs ex H (upd H a o) h h' where
 keep:=λb u q _ _ _=>k b u q
 slot:=λb u q _ _ _=>⟨u.slots,k b u q⟩
 free:=λb u q n _=>by rw[zn (Nat.ne_of_lt (Nat.lt_of_lt_of_le (Heap.lt_size q) hp))];exact n
 there:=λb u q _=>⟨u,k b u q⟩
 tups:=λb xs q=>by rw[zn (yj q hn)];exact q
 frzs:=λb u xs q=>by rw[zn (yj q hn)];exact q
 tbls:=λb ps q=>⟨#[],by rw[zn (yj q hn),q];simp⟩
theorem Un.write(mu:Mut (H x))(he:e=x\/H e=some (.own x))(k:∀b u,b≠e->h.get? b=some u->h'.get? b=some u)(heo:∃u,h'.get? e=some u):Un fs ex H (upd H x o) h h':=by
 have hx:∀b,H b=none->b≠x:=λb n z=>by subst z;rw[n]at mu;exact mu
 have hb:∀b,H b=none->b≠e:=λb n z=>by
  subst z;rcases he with r|r
  ·exact hx b n r
  ·rw[n]at r;cases r
 have hm:∀b u,H b=some u->¬ Mut (some u)->b≠x:=λb u q nm z=>by subst z;rw[q]at mu;exact nm mu
 refine⟨λb u q n _ _=>k b u (hb b n) q,λb u q n _ _=>⟨u.slots,k b u (hb b n) q⟩,λb u q n _=>by rw[zn (hx b n)];exact n,λb u q _=>?_,
  λb xs q=>by rw[zn (hm b _ q λz=>z)];exact q,λb u xs q=>by rw[zn (hm b _ q λz=>z)];exact q,λb ps q=>⟨#[],by rw[zn (hm b _ q λz=>z),q];simp⟩⟩
 by_cases hbe:b=e
 ·subst hbe;exact heo
 ·exact⟨u,k b u hbe q⟩
theorem Un.mono(u:Un fs ex H H1 h h1)(hs:∀b∈fs,b∈fs')(hx:∀b∈ex,b∈ex'):Un fs' ex' H H1 h h1 :=
 ⟨λb ob q n hb he=>u.keep b ob q n (λz=>hb (hs b z)) λz=>he (hx b z),λ_ _ q n _ he=>u.any q n λz=>he (hx _ z),λb ob q n he=>u.free b ob q n λz=>he (hx b z),λb ob q he=>u.there b ob q λz=>he (hx b z),u.tups,u.frzs,u.tbls⟩
end
def trk(h:Heap)(H:Hp):List Addr:=(List.range h.objs.size).filter λa=>(H a).isSome
def zcn(h:Heap)(H:Hp):Heap:=PySem.W.hideAll h (trk h H)
theorem zkq(h:Heap)(H:Hp):(zcn h H).objs.size=h.objs.size:=PySem.W.hideAll_size _ _
theorem zma{h:Heap}{H:Hp}{b:Addr}{o:Obj}(e:h.get? b=some o)(n:H b=none):(zcn h H).get? b=some o :=
 PySem.W.hideAll_get _ e λhm=>by
  have q:(H b).isSome=true:=(List.mem_filter.mp hm).2;rw[n]at q;simp at q
theorem zow{h:Heap}{H:Hp}{b:Addr}{o:Obj}(e:(zcn h H).get? b=some o):h.get? b=some o/\H b=none:=by
 have e':h.get? b=some o:=PySem.W.of_hideAll (trk h H) e;refine⟨e',?_⟩
 cases q:H b with
 |none=>rfl
 |some x=>
  have hm:b∈trk h H:=List.mem_filter.mpr ⟨List.mem_range.mpr (Heap.lt_size e'),by simp[q]⟩;have z:(zcn h H).get? b=none:=PySem.W.hideAll_none (trk h H) hm;rw[z]at e;cases e
def zox(g h:Heap)(L:Addr):List (Addr×Obj):=(List.range h.objs.size).filterMap λa=>if a=L\/(g.get? a).isSome=true then none else (h.get? a).map λo=>(a,o)
def rest(g h:Heap)(L d:Addr):List (Addr×Obj):=(zox g h L).filter λp=>decide (p.1≠d)
structure Mod(K:PySem.W.Frag)(mg:Str->Option Value)(base:Heap):Prop where
 kin:K.In base
 glob:base.Ns mainGlobals mg
 blt:∃mb,base.Ns builtinsNs mb/\∀x:Str,x ≠ "__name__" -> mb x=bootBuiltins x
 nolimit:base.NoLimit
structure Cx where
 prog:Program
 w:World
 K:PySem.W.Frag
 mg:Str->Option Value
 base:Heap
 A:Around
 N:List Str
 s₀:Shared
 H₀:Hp
 env:Env
 outer:List Env
 stack:List Env
 ex:List Addr
 fn:Str->Bool
 calm:Bool
 pn:List (Addr×Obj)
 xe:Value->Shared->Prop
def frs(l:List Env):List Addr:=l.filterMap (·.frame)
abbrev Cx.fs(X:Cx):List Addr:=frs X.outer
def Vis(sc:Scope)(x:Str):Prop:=sc.names.lookup x=some .local\/sc.names.lookup x=some .cell\/sc.names.lookup x=some .free
def Loc(sc:Scope)(x:Str):Prop:=sc.names.lookup x=some .local\/sc.names.lookup x=some .cell
def zvv(env:Env)(h:Heap)(m:Str->Option Value)(x:Str)(u:Value):Prop :=
 (env.kindOf x=some .local/\m x=some u)\/((env.kindOf x=some .cell\/env.kindOf x=some .free)/\∃c,env.cells.lookup x=some c/\h.IsCell c (some u))
structure Cx.Ok(X:Cx):Prop where
 mod:Mod X.K X.mg X.base
 kind:X.env.scope.kind=.function
 glob:X.env.globals=mainGlobals
 blt:X.env.builtins=builtinsNs
 above:X.s₀.heap.objs.size<=X.env.locals
 inj:∀x y c,X.env.cells.lookup x=some c->X.env.cells.lookup y=some c->x=y
 has:∀x,(X.env.kindOf x=some .cell\/X.env.kindOf x=some .free)->∃c,X.env.cells.lookup x=some c
 cab:∀x c,X.fn x=true->X.env.cells.lookup x=some c->X.s₀.heap.objs.size<=c
 hd:X.calm=true->X.A.handled=none
 frames:X.A.frames=some X.stack
 stk:X.stack=X.outer\/(X.stack=X.env::X.outer/\X.env.frame=some X.env.locals)
 exf:∀b∈X.ex,b≠X.env.locals/\∀x c,X.env.cells.lookup x=some c->c≠b
 bs:∀b o,X.base.get? b=some o->X.s₀.heap.get? b=some o/\X.H₀ b=none
 bsz:X.base.objs.size<=X.s₀.heap.objs.size
 noex:∀b o,X.base.get? b=some o->b∉X.ex
 exfs:∀b∈X.ex,b∉X.fs
 funs:X.s₀.heap.FunFrames X.base X.outer
 frf:∀b∈X.fs,X.H₀ b=none
structure Inv(X:Cx)(pins:List (Addr×Obj))(σ:List (Option V))(H:Hp)(s:Shared):Prop where
 ok:X.Ok
 os:s.os=X.s₀.os
 bare:AllBare s.gens
 base:Un X.fs X.ex X.H₀ H X.s₀.heap s.heap
 loc:∃m,s.heap.Ns X.env.locals m/\∀(i:Nat) (x:Str) (v:V),X.N[i]?=some x->σ[i]?=some (some v)->Vis X.env.scope x->∃u,RelV v u/\zvv X.env s.heap m x u
 cell:∀x c,X.env.cells.lookup x=some c->∃v,s.heap.IsCell c v
 free:H X.env.locals=none
 freeC:∀x c,X.env.cells.lookup x=some c->H c=none
 pin:∀p∈X.pn++pins,s.heap.get? p.1=some p.2/\H p.1=none/\p.1≠X.env.locals/\p.1∉X.fs/\∀v,p.2.data ≠ .cell v
 hok:HOk X.prog X.w H s.heap
 len:σ.length=X.N.length
section
variable {X:Cx}{pins:List (Addr×Obj)}{σ:List (Option V)}{H H':Hp}{s:Shared}{h':Heap}
theorem Cx.Ok.nofr(ok:X.Ok){b:Addr}{o:Obj}(e:X.base.get? b=some o):b∉X.fs:=λhb=>by
 have:=(ok.funs.mem hb).1;rw[e]at this;cases this
theorem Inv.bs(I:Inv X pins σ H s):∀b o,X.base.get? b=some o->s.heap.get? b=some o/\H b=none:=λb o e=>
 ⟨I.base.keep b o (I.ok.bs b o e).1 (I.ok.bs b o e).2 (I.ok.nofr e) (I.ok.noex b o e),I.base.free b o (I.ok.bs b o e).1 (I.ok.bs b o e).2 (I.ok.noex b o e)⟩
theorem Inv.bk(I:Inv X pins σ H s):∀b o,X.base.get? b=some o->s.heap.get? b=some o:=λb o e=>(I.bs b o e).1
theorem Inv.mod(I:Inv X pins σ H s):Mod X.K X.mg X.base:=I.ok.mod
theorem Inv.kIn(I:Inv X pins σ H s):X.K.In s.heap:=I.ok.mod.kin.keeps I.bk
theorem Inv.fr(I:Inv X pins σ H s):∃m,Fr X.base X.env.locals s.heap m :=
 let ⟨m,hn,_⟩:=I.loc
 ⟨m,hn,I.bk,Nat.le_trans I.ok.bsz I.ok.above⟩
theorem Inv.lt(I:Inv X pins σ H s):X.env.locals<s.heap.objs.size:=let ⟨_,hn,_⟩:=I.loc;hn.lt
theorem Inv.sz(I:Inv X pins σ H s):X.s₀.heap.objs.size<=s.heap.objs.size:=Nat.le_trans I.ok.above (Nat.le_of_lt I.lt)
theorem Inv.nofs(I:Inv X pins σ H s){a:Addr}(h:s.heap.objs.size<=a):a∉X.fs:=λhb=>by
 obtain⟨_,o,ho,_⟩:=I.ok.funs.mem hb;exact absurd (Nat.lt_of_lt_of_le (Heap.lt_size ho) (Nat.le_trans I.sz h)) (Nat.lt_irrefl _)
theorem Inv.cne(I:Inv X pins σ H s):∀x c,X.env.cells.lookup x=some c->c≠X.env.locals:=λx c e z=>by
 obtain⟨v,o,ho,hd⟩:=I.cell x c e;obtain⟨m,⟨o',es,ep,ho',hd',_⟩,_⟩:=I.loc;rw[z,ho']at ho;cases ho;rw[hd']at hd;cases hd
theorem Inv.funs(I:Inv X pins σ H s):s.heap.FunFrames X.base X.outer:=by
 have all:∀(l:List Env),(∀b∈frs l,b∈X.fs)->X.s₀.heap.FunFrames X.base l->s.heap.FunFrames X.base l:=by
  intro l
  induction l with
  |nil=>intro _ _;trivial
  |cons env r ih=>
   intro hs hl;obtain⟨hk,⟨L,o,hf,hn,ho,hd⟩,hr⟩:=hl;have hL:L∈X.fs:=hs L (by unfold frs;rw[List.filterMap_cons,hf];exact List.mem_cons_self);obtain⟨sl,e⟩:=I.base.slot L o ho (I.ok.frf L hL) hL λz=>I.ok.exfs L z hL;exact⟨hk,⟨L,_,hf,hn,e,hd⟩,ih (λb hb=>hs b (by unfold frs;rw[List.filterMap_cons,hf];exact List.mem_cons_of_mem _ hb)) hr⟩
 exact all X.outer (λ_ hb=>hb) I.ok.funs
theorem Inv.stack(I:Inv X pins σ H s):s.heap.FunFrames X.base X.stack:=by
 rcases I.ok.stk with e |⟨e,hf⟩
 ·rw[e];exact I.funs
 ·rw[e];obtain⟨m,hn,_⟩:=I.loc;refine .cons (by rw[I.ok.kind];decide) hf hn ?_ I.funs;exact Heap.get?_none_of_le (Nat.le_trans I.ok.bsz I.ok.above)
theorem Inv.stkSub(I:Inv X pins σ H s):∀b∈frs X.stack,b∈X.env.locals::X.fs:=λb hb=>by
 rcases I.ok.stk with e |⟨e,hf⟩
 ·rw[e]at hb;exact List.mem_cons_of_mem _ hb
 ·rw[e]at hb;unfold frs at hb;rw[List.filterMap_cons,hf]at hb;exact hb
theorem Inv.stkFree(I:Inv X pins σ H s):∀b∈frs X.stack,H b=none:=λb hb=>by
 rcases List.mem_cons.mp (I.stkSub b hb) with e|hb
 ·rw[e];exact I.free
 ·obtain⟨_,o,ho,_⟩:=I.ok.funs.mem hb;exact I.base.free b o ho (I.ok.frf b hb) λz=>I.ok.exfs b z hb
theorem Inv.step{g':Array GenState}{t':Nat}{d':Drawn}{ch:List Addr}(I:Inv X pins σ H s)
  (hch:∀b∈ch,(b∈X.ex\/X.s₀.heap.objs.size<=b)/\b≠X.env.locals/\(∀x c,X.env.cells.lookup x=some c->c≠b)/\∀p∈X.pn++pins,p.1≠b)
  (keep:∀b o,b≠X.env.locals->b∉X.fs->b∉ch->s.heap.get? b=some o->H b=none->h'.get? b=some o)
  (slot:∀b o,b≠X.env.locals->b∈X.fs->b∉ch->s.heap.get? b=some o->H b=none->∃sl,h'.get? b=some { o with slots:=sl }) (free:∀b o,b∉ch->s.heap.get? b=some o->H b=none->H' b=none)
  (there:∀b o,b∉ch->s.heap.get? b=some o->∃o',h'.get? b=some o')
  (tups:∀b xs,H b=some (.tup xs)->H' b=some (.tup xs)) (frzs:∀b o u,H b=some (.frz o u)->H' b=some (.frz o u)) (tbls:∀b ps,H b=some (.tbl ps)->∃more,H' b=some (.tbl (ps++more)))
  (ns:∀m,s.heap.Ns X.env.locals m->h'.Ns X.env.locals m) (hok:HOk X.prog X.w H' h') (hg:AllBare g') :
  Inv X pins σ H' { s with heap:=h',gens:=g',drawn:=d',toks:=t' }:=by
 have neL:∀b o,X.s₀.heap.get? b=some o->b≠X.env.locals:=λb o e=>Nat.ne_of_lt (Nat.lt_of_lt_of_le (Heap.lt_size e) I.ok.above);have neC:∀b o,X.s₀.heap.get? b=some o->b∉X.ex->b∉ch:=λb o e hx hb=>by
  rcases (hch b hb).1 with z|z
  ·exact hx z
  ·exact absurd (Nat.lt_of_lt_of_le (Heap.lt_size e) z) (Nat.lt_irrefl _)
 have cellK:∀x c,X.env.cells.lookup x=some c->∀v,s.heap.IsCell c v->h'.IsCell c v:=λx c e v ⟨o,ho,hd⟩=>by
  have nch:c∉ch:=λz=>(hch c z).2.2.1 x c e rfl
  by_cases hc:c∈X.fs
  ·obtain⟨sl,q⟩:=slot c o (I.cne x c e) hc nch ho (I.freeC x c e);exact⟨_,q,hd⟩
  ·exact⟨o,keep c o (I.cne x c e) hc nch ho (I.freeC x c e),hd⟩
 refine⟨I.ok,I.os,hg,⟨λb o e n hb hx=>?_,λb o e n hb hx=>?_,λb o e n hx=>?_,λb o e hx=>?_,λb xs e=>tups b xs (I.base.tups b xs e),λb o xs e=>frzs b o xs (I.base.frzs b o xs e),λb ps e=>?_⟩,?_,λx c e=>?_,?_,λx c e=>?_,λp hp=>?_,hok,I.len⟩
 ·exact keep b o (neL b o e) hb (neC b o e hx) (I.base.keep b o e n hb hx) (I.base.free b o e n hx)
 ·obtain⟨sl,e1⟩:=I.base.slot b o e n hb hx;obtain⟨sl',e2⟩:=slot b _ (neL b o e) hb (neC b o e hx) e1 (I.base.free b o e n hx);exact⟨sl',e2⟩
 ·obtain⟨o',e1⟩:=I.base.there b o e hx;exact free b o' (neC b o e hx) e1 (I.base.free b o e n hx)
 ·obtain⟨o',e1⟩:=I.base.there b o e hx;exact there b o' (neC b o e hx) e1
 ·obtain⟨m1,e1⟩:=I.base.tbls b ps e;obtain⟨m2,e2⟩:=tbls b _ e1;exact⟨m1++m2,by rw[e2,Array.append_assoc]⟩
 ·obtain⟨m,hn,hl⟩:=I.loc;refine⟨m,ns m hn,λi x v e1 e2 e3=>?_⟩;obtain⟨u,r,l⟩:=hl i x v e1 e2 e3;refine⟨u,r,?_⟩;rcases l with l |⟨k,c,e,z⟩
  ·exact .inl l
  ·exact .inr ⟨k,c,e,cellK x c e _ z⟩
 ·obtain⟨v,z⟩:=I.cell x c e;exact⟨v,cellK x c e v z⟩
 ·obtain⟨m,⟨o,_,_,ho,_⟩,_⟩:=I.loc;exact free _ o (λz=>(hch _ z).2.1 rfl) ho I.free
 ·obtain⟨v,o,ho,hd⟩:=I.cell x c e;exact free c o (λz=>(hch c z).2.2.1 x c e rfl) ho (I.freeC x c e)
 ·obtain⟨e,n,ne,nf,d⟩:=I.pin p hp;have nch:p.1∉ch:=λz=>(hch p.1 z).2.2.2 p hp rfl;exact⟨keep p.1 p.2 ne nf nch e n,free p.1 p.2 nch e n,ne,nf,d⟩
theorem Inv.un{t':Nat}(I:Inv X pins σ H s)(u:Un X.fs [] H H' s.heap h')(hok:HOk X.prog X.w H' h'):Inv X pins σ H' { s with heap:=h',toks:=t' }:=by
 obtain⟨m,⟨o,es,ep,ho,r⟩,_⟩:=id I.loc;obtain⟨sl,hL⟩:=u.any ho I.free (by simp);exact I.step (g':=s.gens) (d':=s.drawn) (ch:=[]) (λ_ z=>nomatch z) (λb o _ hb _ e n=>u.keep b o e n hb (by simp)) (λb o _ hb _ e n=>u.slot b o e n hb (by simp)) (λb o _ e n=>u.free b o e n (by simp)) (λb o _ e=>u.there b o e (by simp)) u.tups u.frzs u.tbls (λm' hm=>by
  obtain⟨o',es',ep',ho',r'⟩:=hm;rw[ho]at ho';cases ho';exact⟨_,es',ep',hL,r'⟩) hok I.bare
theorem Inv.call{g':Array GenState}{t':Nat}{d':Drawn}{ch:List Addr}(I:Inv X pins σ H s)(u:Un (frs X.stack) ch H H' s.heap h')(hok:HOk X.prog X.w H' h')(hg:AllBare g')
  (hch:∀b∈ch,(b∈X.ex\/X.s₀.heap.objs.size<=b)/\b≠X.env.locals/\(∀x c,X.env.cells.lookup x=some c->c≠b)/\∀p∈X.pn++pins,p.1≠b) :
  Inv X pins σ H' { s with heap:=h',gens:=g',drawn:=d',toks:=t' }:=by
 obtain⟨m,⟨o,es,ep,ho,r⟩,_⟩:=id I.loc;obtain⟨sl,hL⟩:=u.any ho I.free λz=>(hch _ z).2.1 rfl;exact I.step (ch:=ch) hch (λb o hL hb hc e n=>u.keep b o e n (λz=>(List.mem_cons.mp (I.stkSub b z)).elim hL hb) hc) (λb o _ _ hc e n=>u.any e n hc) (λb o hc e n=>u.free b o e n hc) (λb o hc e=>u.there b o e hc) u.tups u.frzs u.tbls (λm' hm=>by
  obtain⟨o',es',ep',ho',r'⟩:=hm;rw[ho]at ho';cases ho';exact⟨_,es',ep',hL,r'⟩) hok hg
theorem Inv.turned{t':Nat}{it:Addr}(I:Inv X pins σ H s)(k:∀b o,b≠it->s.heap.get? b=some o->h'.get? b=some o)(hn:H it=none)(hL:it≠X.env.locals)
  (h1:it∈X.ex\/X.s₀.heap.objs.size<=it) (h2:∀x c,X.env.cells.lookup x=some c->c≠it) (h3:∀p∈X.pn++pins,p.1≠it):Inv X pins σ H { s with heap:=h',toks:=t' }:=by
 have nit:∀b u,H b=some u->b≠it:=λb u e z=>by rw[z,hn]at e;cases e
 refine I.step (g':=s.gens) (d':=s.drawn) (ch:=[it]) (λb hb=>?_) (λb o _ _ hc e _=>k b o (λz=>hc (by simp[z])) e) (λb o _ _ hc e _=>⟨o.slots,k b o (λz=>hc (by simp[z])) e⟩) (λ_ _ _ _ n=>n)
  (λb o hc e=>⟨o,k b o (λz=>hc (by simp[z])) e⟩) (λ_ _ e=>e) (λ_ _ _ e=>e) (λb ps e=>⟨#[],by rw[e];simp⟩) (λm hm=>?_) (λb u e=>?_) I.bare
 ·have e:b=it:=by simpa using hb
  subst e;exact⟨h1,hL,h2,h3⟩
 ·obtain⟨o,es,ep,ho,r⟩:=hm;exact⟨o,es,ep,k _ o (Ne.symm hL) ho,r⟩
 ·refine(I.hok b u e).stay (λc v hc q=>k c v ?_ q) (λ_ q=>q) λ_ _ q=>q;rcases hc with z|z
  ·rw[z];exact nit b u e
  ·exact nit c _ z
theorem Inv.tok(I:Inv X pins σ H s)(t:Nat):Inv X pins σ H { s with toks:=t }:=I.un (h':=s.heap) (t':=t) Un.refl I.hok
theorem Inv.kept{t':Nat}(I:Inv X pins σ H s)(k:∀b u,s.heap.get? b=some u->h'.get? b=some u):Inv X pins σ H { s with heap:=h',toks:=t' }:=I.un (Un.kept k) (I.hok.kept k)
theorem Inv.laid{a:Addr}{o:HO}{t':Nat}(I:Inv X pins σ H s)(k:∀b u,s.heap.get? b=some u->h'.get? b=some u)(hp:s.heap.objs.size<=a)(new:ObjOk X.prog X.w (upd H a o) h' a o):
  Inv X pins σ (upd H a o) { s with heap:=h',toks:=t' }:=I.un (Un.laid k hp (I.hok.fresh hp)) (I.hok.laid k hp new)
theorem Inv.write{x e:Addr}{o:HO}{t':Nat}(I:Inv X pins σ H s)(mu:Mut (H x))(he:e=x\/H e=some (.own x))(k:∀b u,b≠e->s.heap.get? b=some u->h'.get? b=some u)(heo:∃u,h'.get? e=some u)
  (new:ObjOk X.prog X.w (upd H x o) h' x o):Inv X pins σ (upd H x o) { s with heap:=h',toks:=t' }:=I.un (Un.write mu he k heo) (I.hok.write mu he k heo new)
theorem Inv.pins_of{pins':List (Addr×Obj)}(I:Inv X pins σ H s)(h:∀p∈pins',s.heap.get? p.1=some p.2/\H p.1=none/\p.1≠X.env.locals/\p.1∉X.fs/\∀v,p.2.data ≠ .cell v):Inv X pins' σ H s :=
 ⟨I.ok,I.os,I.bare,I.base,I.loc,I.cell,I.free,I.freeC,λp hp=>(List.mem_append.mp hp).elim (λz=>I.pin p (List.mem_append_left _ z)) (h p),I.hok,I.len⟩
theorem zgh{N:List Str}(hN:N.Nodup){i j:Nat}{x:Str}(a:N[i]?=some x)(b:N[j]?=some x):i=j:=by
 obtain⟨h1,e1⟩:=List.getElem?_eq_some_iff.mp a;obtain⟨h2,e2⟩:=List.getElem?_eq_some_iff.mp b;exact(List.getElem_inj hN).mp (e1.trans e2.symm)
theorem zbg{M:Model}{A:Around}{E:Value->Shared->Prop}{i:Nat}{x:Str}{v:V}{u:Value}{Q:Unit->Shared->Prop}(I:Inv X pins σ H s)(hN:X.N.Nodup)(hi:X.N[i]?=some x)(hx:Loc X.env.scope x)(r:RelV v u)
  (h:∀s',Inv X pins (σ.set i (some v)) H s'->(∃a,Heap.SameBut a s.heap s'.heap/\(a=X.env.locals\/X.env.cells.lookup x=some a))->Q () s') (hf:X.fn x=true\/X.env.scope.names.lookup x=some .local:=by first|exact .inl rfl|exact .inr rfl|assumption):wpAny M A (storeName X.env x u) Q E s:=by
 obtain⟨m,hn,hl⟩:=id I.loc;have hcls:(X.env.scope.kind == .class ||(X.env.scope.kind == .module && X.env.locals != X.env.globals))=false:=by rw[I.ok.kind];rfl
 have hiσ:i<σ.length:=by rw[I.len];exact(List.getElem?_eq_some_iff.mp hi).1
 have cne:=I.cne;have tracked:∀{a:Addr}{h':Heap},(∃o,s.heap.get? a=some o/\H a=none)->Heap.SameBut a s.heap h'->HOk X.prog X.w H h':=λ{a h'} ha hs b ob e=>by
  obtain⟨_,_,hfree⟩:=ha;refine(I.hok b ob e).stay (λc w' hc q=>(hs.2 c ?_).trans q) (λ_ q=>q) λ_ _ q=>q;rintro rfl;rcases hc with rfl|hc
  ·rw[hfree]at e;cases e
  ·rw[hfree]at hc;cases hc
 rcases hx with hk|hk
 ·refine wpAny_storeName_local hk hn (λh' hn' hs=>?_) hcls;obtain⟨oL,_,_,hoL,_⟩:=id hn;refine h _ ⟨I.ok,I.os,I.bare,⟨λb o e n hb hx=>?_,λb o e n hb hx=>?_,I.base.free,λb o e hx=>?_,I.base.tups,I.base.frzs,I.base.tbls⟩,⟨_,hn',λj y v' e1 e2 e3=>?_⟩,λy c e=>?_,I.free,I.freeC,λp hp=>?_,tracked ⟨oL,hoL,I.free⟩ hs,by simpa using I.len⟩ ⟨_,hs,.inl rfl⟩
  ·exact(hs.2 b (Nat.ne_of_lt (Nat.lt_of_lt_of_le (Heap.lt_size e) I.ok.above))).trans (I.base.keep b o e n hb hx)
  ·obtain⟨sl,e1⟩:=I.base.slot b o e n hb hx;exact⟨sl,(hs.2 b (Nat.ne_of_lt (Nat.lt_of_lt_of_le (Heap.lt_size e) I.ok.above))).trans e1⟩
  ·obtain⟨o',e1⟩:=I.base.there b o e hx;exact⟨o',(hs.2 b (Nat.ne_of_lt (Nat.lt_of_lt_of_le (Heap.lt_size e) I.ok.above))).trans e1⟩
  ·by_cases hj:j=i
   ·subst hj;rw[hi]at e1;cases e1;rw[List.getElem?_set_self hiσ]at e2
    cases e2;exact⟨u,r,.inl ⟨hk,by simp⟩⟩
   ·rw[List.getElem?_set_ne (Ne.symm hj)]at e2;obtain⟨u',r',q⟩:=hl j y v' e1 e2 e3;refine⟨u',r',?_⟩;rcases q with⟨k,e⟩ |⟨k,c,e,z⟩
    ·refine .inl ⟨k,?_⟩;have:y≠x:=λe=>hj (zgh hN e1 (e ▸ hi));simp[this,e]
    ·exact .inr ⟨k,c,e,z.sameBut hs (cne y c e)⟩
  ·obtain⟨w',z⟩:=I.cell y c e;exact⟨w',z.sameBut hs (cne y c e)⟩
  ·obtain⟨e,n,ne,nf,d⟩:=I.pin p hp;exact⟨(hs.2 p.1 ne).trans e,n,ne,nf,d⟩
 ·have hfn:X.fn x=true:=by
   rcases hf with z|z
   ·exact z
   ·rw[z]at hk;cases hk
  obtain⟨c,hc⟩:=I.ok.has x (.inl hk);obtain⟨w',z⟩:=I.cell x c hc;refine wpAny_storeName_cell I.ok.kind hk hc z (λh' hc' hs=>?_);obtain⟨oc,hoc,hocd⟩:=id z;refine h { s with heap:=h' } ⟨I.ok,I.os,I.bare,⟨λb o e n hb hx=>?_,λb o e n hb hx=>?_,I.base.free,λb o e hx=>?_,I.base.tups,I.base.frzs,I.base.tbls⟩,⟨m,hn.sameBut hs (Ne.symm (cne x c hc)),λj y v' e1 e2 e3=>?_⟩,λy c' e=>?_,I.free,I.freeC,λp hp=>?_,tracked ⟨oc,hoc,I.freeC x c hc⟩ hs,by simpa using I.len⟩ ⟨c,hs,.inr hc⟩
  ·exact(hs.2 b (Nat.ne_of_lt (Nat.lt_of_lt_of_le (Heap.lt_size e) (I.ok.cab x c hfn hc)))).trans (I.base.keep b o e n hb hx)
  ·obtain⟨sl,e1⟩:=I.base.slot b o e n hb hx;exact⟨sl,(hs.2 b (Nat.ne_of_lt (Nat.lt_of_lt_of_le (Heap.lt_size e) (I.ok.cab x c hfn hc)))).trans e1⟩
  ·obtain⟨o',e1⟩:=I.base.there b o e hx;exact⟨o',(hs.2 b (Nat.ne_of_lt (Nat.lt_of_lt_of_le (Heap.lt_size e) (I.ok.cab x c hfn hc)))).trans e1⟩
  ·by_cases hj:j=i
   ·subst hj;rw[hi]at e1;cases e1;rw[List.getElem?_set_self hiσ]at e2
    cases e2;exact⟨u,r,.inr ⟨.inl hk,c,hc,hc'⟩⟩
   ·rw[List.getElem?_set_ne (Ne.symm hj)]at e2;obtain⟨u',r',q⟩:=hl j y v' e1 e2 e3;refine⟨u',r',?_⟩;rcases q with q |⟨k,c',e,z'⟩
    ·exact .inl q
    ·refine .inr ⟨k,c',e,z'.sameBut hs ?_⟩;rintro rfl;exact hj (zgh hN e1 (I.ok.inj _ _ _ e hc ▸ hi))
  ·by_cases hcc:c'=c
   ·subst hcc;exact⟨_,hc'⟩
   ·obtain⟨w2,z2⟩:=I.cell y c' e;exact⟨w2,z2.sameBut hs hcc⟩
  ·obtain⟨e,n,ne,nf,d⟩:=I.pin p hp;refine⟨(hs.2 p.1 ?_).trans e,n,ne,nf,d⟩;intro q;rw[q,hoc]at e;have q':oc=p.2:=Option.some.inj e;exact d w' (by rw[<-q'];exact hocd)
theorem v5{M:Model}{A:Around}{E:Value->Shared->Prop}{i:Nat}{x:Str}{v:V}{u:Value}{Q:Unit->Shared->Prop}(I:Inv X pins σ H s)(hN:X.N.Nodup)(hi:X.N[i]?=some x)(hx:Loc X.env.scope x)(r:RelV v u)
  (h:∀s',Inv X pins (σ.set i (some v)) H s'->Q () s') (hf:X.fn x=true\/X.env.scope.names.lookup x=some .local:=by first|exact .inl rfl|exact .inr rfl|assumption):wpAny M A (storeName X.env x u) Q E s :=
 zbg I hN hi hx r (λs' I' _=>h s' I') hf
theorem Inv.call'{s':Shared}{ch:List Addr}(I:Inv X pins σ H s)(ho:s'.os=s.os)(u:Un (frs X.stack) ch H H' s.heap s'.heap)(hok:HOk X.prog X.w H' s'.heap)(hg:AllBare s'.gens)
  (hch:∀b∈ch,(b∈X.ex\/X.s₀.heap.objs.size<=b)/\b≠X.env.locals/\(∀x c,X.env.cells.lookup x=some c->c≠b)/\∀p∈X.pn++pins,p.1≠b):Inv X pins σ H' s':=by
 obtain⟨h',g',d',t',o'⟩:=s';have e:o'=s.os:=ho;subst e;exact I.call (g':=g') (t':=t') (d':=d') u hok hg hch
end
abbrev XK:=Value->Option Addr->Hp->Prop
abbrev St:=List (Option V)
abbrev VK:=V->Hp->Prop
abbrev TE:=St->Hp->VK->Prop
abbrev TT:=St->Hp->(Bool->Hp->Prop)->Prop
abbrev TA:=St->Hp->(List V->Hp->Prop)->Prop
structure zhv where
 nx:St->Hp->Prop
 rt:VK
 bk:St->Hp->Prop:=λ_ _=>False
 ct:St->Hp->Prop:=λ_ _=>False
abbrev TS:=zhv->St->Hp->Prop
def EP(X:Cx)(pins:List (Addr×Obj))(σ:St)(Q:VK)(u:Value)(s':Shared):Prop:=∃v H',Inv X pins σ H' s'/\RelV v u/\Q v H'
def TP(X:Cx)(pins:List (Addr×Obj))(σ:St)(Q:Bool->Hp->Prop)(b:Bool)(s':Shared):Prop:=∃H',Inv X pins σ H' s'/\Q b H'
def AP(X:Cx)(pins:List (Addr×Obj))(σ:St)(Q:List V->Hp->Prop)(us:List Value)(s':Shared):Prop:=∃vs H',Inv X pins σ H' s'/\Vals vs us/\Q vs H'
def SP(X:Cx)(pins:List (Addr×Obj))(D:zhv)(f:Flow)(s':Shared):Prop :=
 match f with
 |.next=>∃σ' H',Inv X pins σ' H' s'/\D.nx σ' H'
 |.brk=>∃σ' H',Inv X pins σ' H' s'/\D.bk σ' H'
 |.cont=>∃σ' H',Inv X pins σ' H' s'/\D.ct σ' H'
 |.ret u=>∃v σ' H',Inv X pins σ' H' s'/\RelV v u/\D.rt v H'
def PE(X:Cx)(e:Expr)(t:TE):Prop :=
 ∀(pins:List (Addr×Obj)) (s:Shared) (σ:St) (H:Hp) (Q:VK),Inv X pins σ H s->t σ H Q->wpAny (model X.prog X.w) X.A (eval e X.env) (EP X pins σ Q) X.xe s
def PT(X:Cx)(e:Expr)(t:TT):Prop :=
 ∀(pins:List (Addr×Obj)) (s:Shared) (σ:St) (H:Hp) (Q:Bool->Hp->Prop),Inv X pins σ H s->t σ H Q->wpAny (model X.prog X.w) X.A (isTrue e X.env (eval e X.env)) (TP X pins σ Q) X.xe s
def PW(X:Cx)(e:Expr)(t:TT):Prop :=
 ∀(whole:Sem Value) (pins:List (Addr×Obj)) (s:Shared) (σ:St) (H:Hp) (Q:Bool->Hp->Prop),Inv X pins σ H s->t σ H Q->wpAny (model X.prog X.w) X.A (isTrue e X.env whole) (TP X pins σ Q) X.xe s
theorem PW.pt{X:Cx}{e:Expr}{t:TT}(h:PW X e t):PT X e t:=h _
def PA(X:Cx)(es:List Expr)(t:TA):Prop :=
 ∀(pos:Pos) (pins:List (Addr×Obj)) (s:Shared) (σ:St) (H:Hp) (Q:List V->Hp->Prop),Inv X pins σ H s->t σ H Q->wpAny (model X.prog X.w) X.A (spliced (backTo pos (starEach es X.env))) (AP X pins σ Q) X.xe s
def PS(X:Cx)(st:Stmt)(t:TS):Prop :=
 ∀(pins:List (Addr×Obj)) (s:Shared) (σ:St) (H:Hp) (D:zhv),Inv X pins σ H s->t D σ H->wpAny (model X.prog X.w) X.A (exec st X.env) (SP X pins D) X.xe s
def PSs(X:Cx)(st:List Stmt)(t:TS):Prop :=
 ∀(pins:List (Addr×Obj)) (s:Shared) (σ:St) (H:Hp) (D:zhv),Inv X pins σ H s->t D σ H->wpAny (model X.prog X.w) X.A (execs st X.env) (SP X pins D) X.xe s
theorem thn{α:Type}{t:Sem α}{Q Q':α->Shared->Prop}{M:Model}{A:Around}{E:Value->Shared->Prop}{s:Shared}(h:wpAny M A t Q E s)(hQ:∀a s,Q a s->Q' a s):wpAny M A t Q' E s:=wpAny_mono h hQ λ_ _ x=>x
section
variable {X:Cx}
def zt7(i:Nat):TE:=λσ H Q=>∃v,σ[i]?=some (some v)/\Q v H
def tC(v:V):TE:=λ_ H Q=>Q v H
theorem wc{i:Nat}{x:Str}{pos:Pos}(hN:X.N[i]?=some x)(hv:Vis X.env.scope x)(hd:(x ==("__debug__" : Str))=false:=by decide)(hcd:(x ==("__classdict__" : Str))=false:=by decide):PE X (.Name x pos) (zt7 i):=by
 intro pins s σ H Q I h;obtain⟨v,e,h⟩:=h;obtain⟨m,hn,hl⟩:=I.loc;obtain⟨u,r,l⟩:=hl i x v hN e hv;have fin:EP X pins σ Q u s:=⟨v,H,I,r,h⟩
 rcases l with⟨hk,hm⟩ |⟨hk,c,hc,hcell⟩
 ·exact wpAny_Name (wpAny_loadName_local I.ok.kind hk hn hm fin) hd
 ·rcases hk with hk|hk
  ·exact wpAny_Name (wpAny_loadName_cell I.ok.kind hk hc hcell fin) hd
  ·exact wpAny_Name (wpAny_loadName_free I.ok.kind hk hc hcell fin hcd) hd
theorem ve{i j pos}:PE X (.Constant (.int i) j pos) (tC (.int i)):=λ_ _ _ H _ I h=>wpAny_Constant_int ⟨.int i,H,I.tok _,⟨_,rfl⟩,h⟩
theorem zt8{b j pos}:PE X (.Constant (.bool b) j pos) (tC (.bl b)):=λ_ _ _ H _ I h=>Constant_bool ⟨.bl b,H,I,rfl,h⟩
theorem zrg{j pos}:PE X (.Constant .none j pos) (tC .non):=λ_ _ _ H _ I h=>Constant_none ⟨.non,H,I,rfl,h⟩
def Gl(X:Cx)(x:Str):Prop:=X.env.kindOf x=some .globalImplicit
theorem ze9{E:Value->Shared->Prop}{pins:List (Addr×Obj)}{s:Shared}{σ:St}{H:Hp}{x:Str}{u:Value}{pos:Pos}{Q:Value->Shared->Prop}(I:Inv X pins σ H s)(hg:Gl X x)(hm:X.mg x=some u)(h:Q u s)
  (hd:(x ==("__debug__" : Str))=false:=by decide):wpAny (model X.prog X.w) X.A (eval (.Name x pos) X.env) Q E s :=
 Calls.Name_function_global I.ok.kind hg (Calls.loadGlobal_global (by rw[I.ok.glob];exact I.mod.glob.keeps I.bk) hm h) hd
theorem v6{E:Value->Shared->Prop}{pins:List (Addr×Obj)}{s:Shared}{σ:St}{H:Hp}{x:Str}{u:Value}{pos:Pos}{Q:Value->Shared->Prop}(I:Inv X pins σ H s)(hg:Gl X x)(hm:X.mg x=none)(hv:bootBuiltins x=some u)(h:Q u s)
  (hn:x ≠ "__name__" := by decide) (hd:(x ==("__debug__" : Str))=false:=by decide):wpAny (model X.prog X.w) X.A (eval (.Name x pos) X.env) Q E s:=by
 obtain⟨mb,h1,h2⟩:=I.mod.blt;exact Calls.Name_function_global I.ok.kind hg (Calls.loadGlobal_builtin (by rw[I.ok.glob];exact I.mod.glob.keeps I.bk) hm (by rw[I.ok.blt];exact h1.keeps I.bk) ((h2 x hn).trans hv) h) hd
theorem zoy{x:Str}{v:V}{u:Value}{pos:Pos}(hg:Gl X x)(hm:X.mg x=some u)(r:RelV v u)(hd:(x ==("__debug__" : Str))=false:=by decide):PE X (.Name x pos) (tC v) :=
 λ_ _ _ H _ I h=>ze9 I hg hm ⟨v,H,I,r,h⟩ hd
theorem zoz{x:Str}{v:V}{u:Value}{pos:Pos}(hg:Gl X x)(hm:X.mg x=none)(hv:bootBuiltins x=some u)(r:RelV v u)(hn:x ≠ "__name__" := by decide)(hd:(x ==("__debug__" : Str))=false:=by decide):PE X (.Name x pos) (tC v) :=
 λ_ _ _ H _ I h=>v6 I hg hm hv ⟨v,H,I,r,h⟩ hn hd
variable {a b:Expr}{ta tb:TE}{pos:Pos}
def PC(X:Cx)(op:CmpOp)(a b:Expr)(t:TE):Prop :=
 ∀(pins:List (Addr×Obj)) (s:Shared) (σ:St) (H:Hp) (Q:VK),Inv X pins σ H s->t σ H Q ->
  wpAny (model X.prog X.w) X.A (eval a X.env) (λv s₁=>wpAny (model X.prog X.w) X.A (eval b X.env) (λu s₂=>wpAny (model X.prog X.w) X.A (compareOp op v u) (EP X pins σ Q) X.xe s₂) X.xe s₁) X.xe s
theorem zmb(b:Expr){op:CmpOp}(h:op ≠ .In)(h2:op ≠ .NotIn):behindInMarks op b=false:=by
 have e1:(op == CmpOp.In)=false:=by cases op <;> first|rfl|exact absurd rfl h
 have e2:(op == CmpOp.NotIn)=false:=by cases op <;> first|rfl|exact absurd rfl h2
 cases b <;> simp[behindInMarks,e1,e2]
def tB(t:TE):TT:=λσ H Q=>t σ H λx H1=>∃c,x=.bl c/\Q c H1
theorem zrh{op:CmpOp}{t:TE}(h:PC X op a b t)(h1:behindInMarks op b=false:=by first|exact zmb _ (by decide) (by decide)|rfl):PT X (.Compare a [op] [b] pos) (tB t):=by
 intro pins s σ H Q I hw;refine wpAny_isTrue_Compare1 (thn (h pins s σ H _ I hw) λv s1 h1=>thn h1 λu s2 h2=>thn h2 λc s3 ⟨x,H1,I1,r1,q1⟩=>?_) h1;obtain⟨d,rfl,q⟩:=q1
 cases r1;exact wpAny_truthy_bool ⟨H1,I1,q⟩
variable {tA tB':TT}{rest:List Expr}
def zvw(t u:TT):TT:=λσ H Q=>t σ H λc H1=>if c=true then u σ H1 Q else Q false H1
theorem zo0(ha:PT X a tA):PW X (.BoolOp .And [a] pos) tA:=by
 intro wh pins s σ H Q I h;refine isTrue_and (thn (ha pins s σ H Q I h) λc s1 e=>?_)
 cases c with
 |true=>exact isTrue_and_nil e
 |false=>exact e
theorem zri(ha:PT X a tA)(hb:PW X (.BoolOp .And (b::rest) pos) tB'):PW X (.BoolOp .And (a::b::rest) pos) (zvw tA tB'):=by
 intro wh pins s σ H Q I h;refine isTrue_and (thn (ha pins s σ H _ I h) λc s1 ⟨H1,I1,q1⟩=>?_)
 cases c with
 |true=>exact hb wh pins s1 σ H1 Q I1 q1
 |false=>exact⟨H1,I1,q1⟩
def zt9(ta:TE):TE:=λσ H Q=>ta σ H λx H1=>∃c,x=.bl c/\Q (.bl (!c)) H1
theorem zrj(ha:PE X a ta):PE X (.UnaryOp .Not a pos) (zt9 ta):=by
 intro pins s σ H Q I h;refine UnaryOp_ (thn (ha pins s σ H _ I h) λv s1 ⟨x,H1,I1,r1,q1⟩=>?_);obtain⟨c,rfl,q1⟩:=q1
 cases r1;exact not_of (wpAny_truthy_bool ⟨.bl (!c),H1,I1,rfl,q1⟩)
def tIf(t:TT)(ta tb:TE):TE:=λσ H Q=>t σ H λc H1=>if c=true then ta σ H1 Q else tb σ H1 Q
theorem zmc{c:Expr}(hc:PT X c tA)(ha:PE X a ta)(hb:PE X b tb):PE X (.IfExp c a b pos) (tIf tA ta tb):=by
 intro pins s σ H Q I h;refine wpAny_IfExp (thn (hc pins s σ H _ I h) λd s1 ⟨H1,I1,q1⟩=>?_)
 cases d with
 |true=>exact ha pins s1 σ H1 Q I1 q1
 |false=>exact hb pins s1 σ H1 Q I1 q1
end
def SqL(K:PySem.W.Frag)(H:Hp)(a:Addr)(xs:List V):Prop :=
 Rd H a (.lst xs) \/
  ∃(o:Obj) (its:Array Value) (n:Nat),K.lookup a=some o/\o.cls=.type "list" /\ o.dict=none/\o.data=.seq its n/\its.size<=sizeLine/\Vals xs its.toList
def SqT(K:PySem.W.Frag)(H:Hp)(a:Addr)(xs:List V):Prop :=
 Rd H a (.tup xs) \/
  ∃(o:Obj) (its:Array Value) (n:Nat),K.lookup a=some o/\o.cls=.type "tuple" /\ o.dict=none/\o.data=.seq its n/\its.size<=sizeLine/\Vals xs its.toList
def zvx:Value->Option V
 |.none=>some .non
 |.bool b=>some (.bl b)
 |.int i _=>some (.int i)
 |.str x _=>some (.str x)
 |.bytes b _=>some (.byt b)
 |.float b _=>some (.flt b)
 |.ref a=>some (.ref a)
 |.type n=>some (.ty n)
 |_=>none
theorem RelV.abs{x:V}{u:Value}(r:RelV x u):zvx u=some x:=by
 cases x with
 |non=>cases r;rfl
 |bl _=>cases r;rfl
 |int _=>obtain⟨t,rfl⟩:=r;rfl
 |str _=>obtain⟨t,rfl⟩:=r;rfl
 |byt _=>obtain⟨t,rfl⟩:=r;rfl
 |flt _=>obtain⟨t,rfl⟩:=r;rfl
 |ref _=>cases r;rfl
 |ty _=>cases r;rfl
theorem RelV.inj{x y:V}{u:Value}(r:RelV x u)(q:RelV y u):x=y:=Option.some.inj (r.abs.symm.trans q.abs)
theorem Vals.inj{xs ys:List V}{us:List Value}(h:Vals xs us)(h':Vals ys us):xs=ys:=by
 induction h generalizing ys with
 |nil=>cases h';rfl
 |cons r t ih=>
  cases h' with
  |cons r' t'=>rw[r.inj r',ih t']
section
variable {X:Cx}{pins:List (Addr×Obj)}{σ:St}{H:Hp}{s:Shared}{a:Addr}{xs ys:List V}
theorem SqL.of{K:PySem.W.Frag}(h:H a=some (.lst xs)):SqL K H a xs:=.inl (.inl h)
theorem SqT.of{K:PySem.W.Frag}(h:H a=some (.tup xs)):SqT K H a xs:=.inl (.inl h)
theorem Inv.list(I:Inv X pins σ H s)(h:SqL X.K H a xs):∃its:List Value,Vals xs its/\PlainL s.heap a its.toArray/\xs.length<=sizeLine:=by
 rcases h with h |⟨o,its,n,hk,hc,hd,hs,hz,r⟩
 ·obtain⟨z,its,n,r,e⟩:=h.ok I.hok;exact⟨its,r,⟨_,n,e,rfl,rfl,rfl⟩,z⟩
 ·refine⟨its.toList,r,⟨o,n,I.kIn a o hk,hc,hd,by simpa using hs⟩,?_⟩;have e:=r.length;simp only[Array.length_toList]at e;omega
theorem Inv.tupleD(I:Inv X pins σ H s)(h:SqT X.K H a xs):∃its:List Value,Vals xs its/\TupD s.heap a its.toArray/\xs.length<=sizeLine:=by
 rcases h with h |⟨o,its,n,hk,hc,hd,hs,hz,r⟩
 ·obtain⟨z,its,r,p⟩:=h.ok I.hok;exact⟨its,r,p,z⟩
 ·refine⟨its.toList,r,⟨o,I.kIn a o hk,hc,⟨n,by simpa using hs⟩,hd⟩,?_⟩;have e:=r.length;simp only[Array.length_toList]at e;omega
theorem Inv.tuple(I:Inv X pins σ H s)(h:SqT X.K H a xs):∃its:List Value,Vals xs its/\IsTup s.heap a its.toArray/\xs.length<=sizeLine:=by
 obtain⟨its,r,p,z⟩:=I.tupleD h;exact⟨its,r,p.isTup,z⟩
theorem Inv.list_inj(I:Inv X pins σ H s)(h:SqL X.K H a xs)(h':SqL X.K H a ys):xs=ys:=by
 obtain⟨its,r,⟨o,n,e,_,_,d⟩,_⟩:=I.list h;obtain⟨its',r',⟨o',n',e',_,_,d'⟩,_⟩:=I.list h';rw[e]at e';cases e';rw[d]at d';injection d' with d1 _
 have:its=its':=by simpa using congrArg Array.toList d1
 subst this;exact r.inj r'
theorem Inv.tuple_inj(I:Inv X pins σ H s)(h:SqT X.K H a xs)(h':SqT X.K H a ys):xs=ys:=by
 obtain⟨its,r,⟨o,e,_,n,d⟩,_⟩:=I.tuple h;obtain⟨its',r',⟨o',e',_,n',d'⟩,_⟩:=I.tuple h';rw[e]at e';cases e';rw[d]at d';injection d' with d1 _
 have:its=its':=by simpa using congrArg Array.toList d1
 subst this;exact r.inj r'
end
abbrev Cx.wish(X:Cx)(E:Value->Shared->Prop):Cx:={ X with xe:=E }
abbrev Cx.nox(X:Cx):Cx:=X.wish λ_ _=>False
theorem Cx.Ok.wish{X:Cx}(ok:X.Ok)(E:Value->Shared->Prop):(X.wish E).Ok :=
 ⟨ok.mod,ok.kind,ok.glob,ok.blt,ok.above,ok.inj,ok.has,ok.cab,ok.hd,ok.frames,ok.stk,ok.exf,ok.bs,ok.bsz,ok.noex,ok.exfs,ok.funs,ok.frf⟩
theorem Cx.Ok.unwish{X:Cx}{E:Value->Shared->Prop}(ok:(X.wish E).Ok):X.Ok :=
 ⟨ok.mod,ok.kind,ok.glob,ok.blt,ok.above,ok.inj,ok.has,ok.cab,ok.hd,ok.frames,ok.stk,ok.exf,ok.bs,ok.bsz,ok.noex,ok.exfs,ok.funs,ok.frf⟩
section
variable {X:Cx}{pins:List (Addr×Obj)}{σ:St}{H:Hp}{s:Shared}{E:Value->Shared->Prop}
theorem Inv.wish(I:Inv X pins σ H s)(E:Value->Shared->Prop):Inv (X.wish E) pins σ H s:=⟨I.ok.wish E,I.os,I.bare,I.base,I.loc,I.cell,I.free,I.freeC,I.pin,I.hok,I.len⟩
theorem Inv.unwish(I:Inv (X.wish E) pins σ H s):Inv X pins σ H s:=⟨I.ok.unwish,I.os,I.bare,I.base,I.loc,I.cell,I.free,I.freeC,I.pin,I.hok,I.len⟩
theorem SP.unwish{D:zhv}{f:Flow}{s':Shared}(h:SP (X.wish E) pins D f s'):SP X pins D f s':=by
 cases f with
 |next=>obtain⟨σ',H',I,q⟩:=h;exact⟨σ',H',I.unwish,q⟩
 |brk=>obtain⟨σ',H',I,q⟩:=h;exact⟨σ',H',I.unwish,q⟩
 |cont=>obtain⟨σ',H',I,q⟩:=h;exact⟨σ',H',I.unwish,q⟩
 |ret u=>obtain⟨v,σ',H',I,r,q⟩:=h;exact⟨v,σ',H',I.unwish,r,q⟩
theorem PE.nox{e:Expr}{t:TE}(h:PE X.nox e t):PE X e t:=λpins s σ H Q I hw=>
 wpAny_mono (h pins s σ H Q (I.wish _) hw) (λ_ _ ⟨v,H',I',r,q⟩=>⟨v,H',I'.unwish,r,q⟩) λ_ _ z=>False.elim z
theorem PSs.nox{st:List Stmt}{t:TS}(h:PSs X.nox st t):PSs X st t:=λpins s σ H D I hw=>
 wpAny_mono (h pins s σ H D (I.wish _) hw) (λ_ _ q=>q.unwish) λ_ _ z=>False.elim z
end
section
variable {X:Cx}{st:Stmt}{rest:List Stmt}{t u:TS}{e:Expr}{te:TE}{pos:Pos}
def zua:TS:=λD σ H=>D.nx σ H
def zvy(t u:TS):TS:=λD σ H=>t { D with nx:=u D } σ H
theorem zo1:PSs X [] zua:=λ_ _ σ H _ I h=>wpAny_execs_nil ⟨σ,H,I,h⟩
theorem zaz(h1:PS X st t)(h2:PSs X rest u):PSs X (st::rest) (zvy t u):=by
 intro pins s σ H D I h;refine wpAny_execs_cons (thn (h1 pins s σ H { D with nx:=u D } I h) λf s1 q=>?_)
 cases f with
 |next=>
  obtain⟨σ',H',I',q⟩:=q;exact h2 pins s1 σ' H' D I' q
 |ret v=>exact q
 |brk=>exact q
 |cont=>exact q
theorem zja(h1:PS X st t):PSs X [st] t:=by
 intro pins s σ H D I h;refine wpAny_execs_cons (thn (h1 pins s σ H D I h) λf s1 q=>?_)
 cases f with
 |next=>exact wpAny_execs_nil q
 |ret v=>exact q
 |brk=>exact q
 |cont=>exact q
theorem Inv.quiet{pins:List (Addr×Obj)}{σ:St}{H:Hp}{s:Shared}(I:Inv X pins σ H s):interactive X.env=false:=by simp[interactive,I.ok.kind]
def zub(te:TE):TS:=λD σ H=>te σ H λ_ H1=>D.nx σ H1
theorem zjb(he:PE X e te)(hs:swapsWith e none pos.line X.env=pure false:=by rfl):PS X (.Expr e pos) (zub te):=by
 intro pins s σ H D I h;exact wpAny_Expr_any (thn (he pins s σ H _ I h) λv s1 ⟨x,H1,I1,r1,q1⟩=>⟨σ,H1,I1,q1⟩) I.quiet hs
def zvz(te:TE):TS:=λD σ H=>te σ H D.rt
theorem zco(he:PE X e te):PS X (.Return (some e) pos) (zvz te):=by
 intro pins s σ H D I h;exact wpAny_Return_some (thn (he pins s σ H _ I h) λv s1 ⟨x,H1,I1,r1,q1⟩=>⟨x,σ,H1,I1,r1,q1⟩)
def zv0(c:TT)(t u:TS):TS:=λD σ H=>c σ H λb H1=>if b=true then t D σ H1 else u D σ H1
theorem zuc{c:Expr}{a b:List Stmt}{tc:TT}(hc:PT X c tc)(ha:PSs X a t)(hb:PSs X b u):PS X (.If c a b pos) (zv0 tc t u):=by
 intro pins s σ H D I h;refine wpAny_If (thn (hc pins s σ H _ I h) λd s1 ⟨H1,I1,q1⟩=>?_)
 cases d with
 |true=>exact ha pins s1 σ H1 D I1 q1
 |false=>exact hb pins s1 σ H1 D I1 q1
end
abbrev TG:=V->St->Hp->(St->Hp->Prop)->Prop
abbrev TGs:=List V->St->Hp->(St->Hp->Prop)->Prop
def PG(X:Cx)(target:Expr)(t:TG):Prop :=
 ∀(pins:List (Addr×Obj)) (s:Shared) (σ:St) (H:Hp) (v:V) (u:Value) (Q:St->Hp->Prop),Inv X pins σ H s->RelV v u->t v σ H Q ->
  wpAny (model X.prog X.w) X.A (assign target X.env u) (λ_ s'=>∃σ' H',Inv X pins σ' H' s'/\Q σ' H') X.xe s
def PGs(X:Cx)(ts:List Expr)(t:TGs):Prop :=
 ∀(pins:List (Addr×Obj)) (s:Shared) (σ:St) (H:Hp) (vs:List V) (us:List Value) (Q:St->Hp->Prop),Inv X pins σ H s->Vals vs us->t vs σ H Q ->
  wpAny (model X.prog X.w) X.A (assignInOrder ((assignEach ts X.env).map (·.2)) us) (λ_ s'=>∃σ' H',Inv X pins σ' H' s'/\Q σ' H') X.xe s
abbrev zrk:=V->V->V->Hp->(Hp->Prop)->Prop
def zud(X:Cx)(t:zrk):Prop :=
 ∀(pins:List (Addr×Obj)) (s:Shared) (σ:St) (H:Hp) (o i v:V) (ov iv u:Value) (Q:Hp->Prop),Inv X pins σ H s->RelV o ov->RelV i iv->RelV v u->t o i v H Q ->
  wpAny (model X.prog X.w) X.A (setItem ov iv u) (λ_ s'=>∃H',Inv X pins σ H' s'/\Q H') X.xe s
section
variable {X:Cx}{pos:Pos}
def zmd(i:Nat):TG:=λv σ H Q=>Q (σ.set i (some v)) H
def zv1(to ti:TE)(t:zrk):TG:=λv σ H Q=>to σ H λo H1=>ti σ H1 λi H2=>t o i v H2 λH3=>Q σ H3
theorem zme{o i:Expr}{to ti:TE}{t:zrk}(ho:PE X o to)(hi:PE X i ti)(hs:zud X t)
  (ha:∀v,assign (.Subscript o i pos) X.env v=(do
   let ov <-holding [v] (eval o X.env)
   let iv <-holding [v,ov] (eval i X.env)
   standAt pos
   holding [v,ov,iv] (setItem ov iv v)
   release [v,ov,iv] []):=by intro _;rfl):PG X (.Subscript o i pos) (zv1 to ti t):=by
 intro pins s σ H v u Q I r h;rw[ha];refine wpAny_bind (wpAny_holding (thn (ho pins s σ H _ I h) λov s1 ⟨x,H1,I1,r1,q1⟩=>?_));refine wpAny_bind (wpAny_holding (thn (hi pins s1 σ H1 _ I1 q1) λiv s2 ⟨y,H2,I2,r2,q2⟩=>?_));refine wpAny_bind (wpAny_standAt (wpAny_bind (wpAny_holding (thn (hs pins s2 σ H2 x y v ov iv u _ I2 r1 r2 r q2) λ_ s3 ⟨H3,I3,q3⟩=>?_))));exact wpAny_release ⟨σ,H3,I3,q3⟩
def zo2(te:TE)(g:TG):TS:=λD σ H=>te σ H λx H1=>g x σ H1 D.nx
theorem zhw{tg e:Expr}{te:TE}{g:TG}(he:PE X e te)(hg:PG X tg g)(hs:swapsWithSole [tg] e pos.line X.env=pure false:=by rfl)(hw:swappedStores [tg] e X.env=pure none:=by rfl)
  (h1:(assignEach [tg] X.env).map (·.2) = [assign tg X.env]:=by rfl):PS X (.Assign [tg] e pos) (zo2 te g):=by
 intro pins s σ H D I h;refine wpAny_Assign_stores (thn (he pins s σ H _ I h) λv s1 ⟨x,H1,I1,r1,q1⟩=>?_) hs hw;rw[h1];exact thn (hg pins s1 σ H1 x v _ I1 r1 q1) λ_ s2 q=>q
theorem zbh{i:Nat}{x:Str}{e:Expr}{te:TE}{pos':Pos}(hN:X.N.Nodup)(hi:X.N[i]?=some x)(hx:Loc X.env.scope x)(he:PE X e te)(hs:swapsWith e (some (.Name x pos')) pos.line X.env=pure false:=by rfl)(hf:X.fn x=true\/X.env.scope.names.lookup x=some .local:=by first|exact .inl rfl|exact .inr rfl|assumption):
  PS X (.Assign [.Name x pos'] e pos) (zo2 te (zmd i)):=by
 intro pins s σ H D I h;refine wpAny_Assign_Name (thn (he pins s σ H _ I h) λv s1 ⟨y,H1,I1,r1,q1⟩=>?_) hs;exact v5 I1 hN hi hx r1 (λs2 I2=>⟨_,H1,I2,q1⟩) hf
def zv2(i j:Nat)(ta:TA):TS:=λD σ H=>ta σ H λvs H1=>∃v w,vs = [v,w]/\D.nx ((σ.set i (some v)).set j (some w)) H1
theorem zmf{i j:Nat}{x y:Str}{a b:Expr}{ta:TA}{px py pt:Pos}{kt k2 pt2}(hc:X.calm=true)(hN:X.N.Nodup)(hi:X.N[i]?=some x)(hj:X.N[j]?=some y)(hij:i≠j)
  (hx:X.env.scope.names.lookup x=some .local) (hy:X.env.scope.names.lookup y=some .local) (ha:PA X [a,b] ta)
  (hw:swappedStores [.Tuple [.Name x px,.Name y py] kt pt] (.Tuple [a,b] k2 pt2) X.env=pure (some [x,y]))
  (hs:swapsWithSole [.Tuple [.Name x px,.Name y py] kt pt] (.Tuple [a,b] k2 pt2) pos.line X.env=pure false:=by rfl) :
  PS X (.Assign [.Tuple [.Name x px,.Name y py] kt pt] (.Tuple [a,b] k2 pt2) pos) (zv2 i j ta):=by
 intro pins s σ H D I h;rw[exec_Assign_arm];refine wpAny_bind (wpAny_standAt ?_);rw[hs];refine wpAny_bind (wpAny_pure ?_);rw[if_neg (by decide)];refine wpAny_bind (Tuple_ (thn (ha _ pins s σ H _ I h) λus s1 ⟨vs,H1,I1,r1,q1⟩=>?_));obtain⟨v,w,e1,q1⟩:=q1;subst e1;obtain⟨u1,u2,rfl,rv,rw'⟩:∃u1 u2,us = [u1,u2]/\RelV v u1/\RelV w u2:=by
  cases r1 with
  |cons p q=>
   cases q with
   |cons p' q'=>
    cases q';exact⟨_,_,rfl,p,p'⟩
 refine wpAny_newObj_type ?_ (by show 2<=sizeLine;decide);have I2:Inv X pins σ H1 { s1 with heap:=s1.heap.push { cls:=.type "tuple",data:=.seq [u1,u2].toArray } }:=I1.kept (t':=s1.toks) λb o e=>Heap.get?_push_of_some _ e;rw[hw];refine wpAny_bind (wpAny_pure ?_);show wpAny (model X.prog X.w) X.A (do rule "assign.swapped-stores";let items <-unpackItems (.ref s1.heap.objs.size) 2 none;assignInOrder [λv=>bindName X.env y v,λv=>bindName X.env x v] items.reverse;pure Flow.next) _ _ _;refine wpAny_bind (wpAny_rule (wpAny_bind (unpackItems_tuple (items:=#[u1,u2]) (I.ok.hd hc) (IsTup.new s1.heap _) λh' hx'=>?_)));have I3:=I2.kept (h':=h') (t':=s1.toks) λb o e=>hx' b o (Nat.ne_of_lt (Heap.lt_size e)) e;show wpAny _ _ (assignInOrder [λv=>bindName X.env y v,λv=>bindName X.env x v] [u2,u1] >>= λ_=>pure Flow.next) _ _ _;refine wpAny_bind (assignInOrder_cons (wpAny_bindName (v5 I3 hN hj (.inl hy) rw' (λs2 I4=>?_) (.inr hy))));refine assignInOrder_cons (wpAny_bindName (v5 I4 hN hi (.inl hx) rv (λs3 I5=>assignInOrder_nil (wpAny_pure ?_)) (.inr hx)));rw[List.set_comm _ _ (Ne.symm hij)]at I5;exact⟨_,H1,I5,q1⟩
end
section
variable {X:Cx}{pos:Pos}
def zrl(c:TT)(tb:TS):TS:=λD σ H=>∃W:Nat->St->Hp->Prop,(∃m,W m σ H)/\∀m σ H,W m σ H ->
 c σ H λb H1=>if b=true then ∃N:St->Hp->Prop,(∀σ' H',N σ' H'->∃m',m' < m/\W m' σ' H')/\tb { D with nx:=N,ct:=N,bk:=D.nx } σ H1 else D.nx σ H1
theorem zmg{c:Expr}{body:List Stmt}{tc:TT}{tb:TS}(hp:PassesOwn (model X.prog X.w) X.A X.env X.xe)(hc:PT X c tc)(hb:PSs X body tb):PS X (.While c body [] pos) (zrl tc tb):=by
 intro pins s σ H D I h;obtain⟨W,⟨m0,w0⟩,turn⟩:=h;refine wpAny_While (codeAny_whileLoop (λn s'=>∃σ' H',Inv X pins σ' H' s'/\W n σ' H') ?_ m0 ⟨σ,H,I,w0⟩);rintro n s1 ⟨σ1,H1,I1,w1⟩;refine wpAny_passesOwn hp (thn (hc pins s1 σ1 H1 _ I1 (turn n σ1 H1 w1)) λb s2 ⟨H2,I2,q2⟩=>?_)
 cases b with
 |true=>
  obtain⟨N,hN,q2⟩:=q2;rw[if_pos rfl];refine wpAny_passesOwn hp (thn (hb pins s2 σ1 H2 _ I2 q2) λf s3 q3=>?_)
  cases f with
  |next=>
   obtain⟨σ3,H3,I3,n3⟩:=q3;obtain⟨m',hm,w3⟩:=hN σ3 H3 n3;exact⟨m',hm,σ3,H3,I3,w3⟩
  |cont=>
   obtain⟨σ3,H3,I3,n3⟩:=q3;obtain⟨m',hm,w3⟩:=hN σ3 H3 n3;exact⟨m',hm,σ3,H3,I3,w3⟩
  |brk=>exact q3
  |ret v=>exact q3
 |false=>
  rw[if_neg Bool.false_ne_true];exact wpAny_execs_nil ⟨σ1,H2,I2,q2⟩
end
structure It where
 go:Nat->Hp->Prop
 yld:Nat->Hp->V->Hp->Prop
 stop:Nat->Hp->Prop
def FpOk(X:Cx)(pins:List (Addr×Obj))(H:Hp)(b:Addr):Prop :=
 H b=none/\b≠X.env.locals/\b∉X.fs/\(b∈X.ex\/X.s₀.heap.objs.size<=b)/\(∀x c,X.env.cells.lookup x=some c->c≠b)/\∀p∈X.pn++pins,p.1≠b
theorem Inv.fpOk{X:Cx}{pins:List (Addr×Obj)}{σ:St}{H H':Hp}{s:Shared}{b:Addr}(I:Inv X pins σ H s)(hb:s.heap.objs.size<=b)(hn:H' b=none):FpOk X pins H' b:=by
 refine⟨hn,Nat.ne_of_gt (Nat.lt_of_lt_of_le I.lt hb),I.nofs hb,.inr (Nat.le_trans I.sz hb),λx c e z=>?_,λp hp z=>?_⟩
 ·obtain⟨v,q⟩:=I.cell x c e;exact absurd (Nat.lt_of_lt_of_le q.lt (by rw[z];exact hb)) (Nat.lt_irrefl _)
 ·exact absurd (Nat.lt_of_lt_of_le (Heap.lt_size (I.pin p hp).1) (by rw[z];exact hb)) (Nat.lt_irrefl _)
structure zfa(P:Program)(w:World)(K:PySem.W.Frag)(tg:Expr)(J:It)(fp:List Addr)(it:Addr)(tn:Nat->Heap->Prop):Prop where
 mem:it∈fp
 obj:∀i h,tn i h->∀b∈fp,∃o,h.get? b=some o/\∀v,o.data ≠ .cell v
 keep:∀i h h',tn i h->(∀b∈fp,∀o,h.get? b=some o->h'.get? b=some o)->tn i h'
 item:∀(X:Cx),X.prog=P->X.w=w->X.K=K->X.calm=true->∀(i:Nat) (pins:List (Addr×Obj)) (s:Shared) (σ:St) (H:Hp) (E:Value->Shared->Prop),Inv X pins σ H s->(∀b∈fp,FpOk X pins H b)->tn i s.heap->J.go i H ->
  wpAny (model P w) X.A (pyNext (.ref it)) (λr s1=>∃u,r=some u /\
   wpAny (model P w) X.A (letOwnedTupleGo tg (.ref it) u) (λ_ s2=>∃x H',Inv X pins σ H' s2/\RelV x u/\J.yld i H x H'/\tn (i+1) s2.heap/\∀b∈fp,H' b=none) E s1) E s
 done:∀(X:Cx),X.prog=P->X.w=w->X.K=K->X.calm=true->∀(i:Nat) (pins:List (Addr×Obj)) (s:Shared) (σ:St) (H:Hp) (E:Value->Shared->Prop),Inv X pins σ H s->(∀b∈fp,FpOk X pins H b)->tn i s.heap->J.stop i H ->
  wpAny (model P w) X.A (pyNext (.ref it)) (λr s1=>r=none/\Inv X pins σ H s1) E s
 self:∀(A:Around) (i:Nat) (s:Shared) (Q:Value->Shared->Prop) (E:Value->Shared->Prop),tn i s.heap->Q (.ref it) s->wpAny (model P w) A (pyIter (.ref it)) Q E s
abbrev TI:=St->Hp->(It->Hp->Prop)->Prop
def PIE(X:Cx)(pins:List (Addr×Obj))(σ:St)(tg:Expr)(R:It->Hp->Prop)(itv:Value)(s2:Shared):Prop :=
 ∃(it:Addr) (fp:List Addr) (tn:Nat->Heap->Prop) (J:It) (H':Hp),itv=.ref it/\Inv X pins σ H' s2/\zfa X.prog X.w X.K tg J fp it tn/\tn 0 s2.heap/\(∀b∈fp,FpOk X pins H' b)/\R J H'
def PI(X:Cx)(tg iter:Expr)(wi:TI):Prop :=
 ∀(pins:List (Addr×Obj)) (s:Shared) (σ:St) (H:Hp) (R:It->Hp->Prop),Inv X pins σ H s->wi σ H R ->
  wpAny (model X.prog X.w) X.A (eval iter X.env) (λv s1=>wpAny (model X.prog X.w) X.A (pyIter v) (PIE X pins σ tg R) X.xe s1) X.xe s
theorem zmh{M:Model}{A:Around}{E:Value->Shared->Prop}{s:Shared}{tg:Expr}{it:Addr}{u:Value}{o:Obj}{n:String}{vs:Array Value}{Q:Unit->Shared->Prop}(ho:s.heap.get? it=some o)(hc:o.cls=.type n)(hd:o.data=.fields vs)
  (hn : ["enumerate", "zip", "dict_itemiterator", "dict_reverseitemiterator", "odict_iterator", "itertools.zip_longest", "itertools.pairwise"].contains n=false) (hQ:Q () s):wpAny M A (letOwnedTupleGo tg (.ref it) u) Q E s:=by
 unfold letOwnedTupleGo
 cases tg <;> first
  |exact wpAny_pure hQ
  |(cases u <;> first
    |exact wpAny_pure hQ
    |(refine wpAny_bind (wpAny_load ho ?_);rw[hc,hd];show wpAny M A (if (["enumerate", "zip", "dict_itemiterator", "dict_reverseitemiterator", "odict_iterator", "itertools.zip_longest", "itertools.pairwise"].contains n && vs[0]? == some (rawInt _))=true then _ else _) Q E s;rw[if_neg (by intro h;rw[hn,Bool.false_and]at h;cases h)];exact wpAny_pure hQ))
def Itl(K:PySem.W.Frag)(a:Addr):It :=
 ⟨λi H=>∃xs x,SqL K H a xs/\xs[i]?=some x,λi H x H'=>H'=H/\∀xs,SqL K H a xs->xs[i]?=some x,λi H=>∃xs,SqL K H a xs/\xs.length<=i⟩
def Itt(K:PySem.W.Frag)(a:Addr):It :=
 ⟨λi H=>∃xs x,SqT K H a xs/\xs[i]?=some x,λi H x H'=>H'=H/\∀xs,SqT K H a xs->xs[i]?=some x,λi H=>∃xs,SqT K H a xs/\xs.length<=i⟩
def Itr(lo:Int)(n:Nat):It:=⟨λi _=>i<n,λi H x H'=>H'=H/\x=.int (lo+i),λi _=>n<=i⟩
theorem zkr{P:Program}{w:World}{K:PySem.W.Frag}{tg:Expr}(a it:Addr):zfa P w K tg (Itl K a) [it] it (λi h=>h.IsListIter it a i) where
 mem:=by simp
 obj:=λi h st b hb=>by
  have e:b=it:=by simpa using hb
  subst e;obtain⟨o,e,c,d⟩:=st;exact⟨o,e,λv z=>by rw[d]at z;cases z⟩
 keep:=λi h h' st k=>st.at λo e=>k it (by simp) o e
 item:=by
  intro X hP hw hK hc i pins s σ H E I hf st hg;subst hP hw hK;obtain⟨xs,x,hq,hx⟩:=hg;obtain⟨its,rv,p,hz⟩:=I.list hq;obtain⟨u,hu,ru⟩:=rv.get hx;obtain⟨f0,f1,f2,f3,f4,f5⟩:=hf it (by simp);refine wpAny_pyNext_list_item st p.isList (x:=u) (by simpa using hu) λh' st' sb=>?_;have I1:Inv X pins σ H { s with heap:=h' }:=I.turned (t':=s.toks) (λb o hb e=>(sb.2 b hb).trans e) f0 f1 f3 f4 f5;obtain⟨o,e,c,d⟩:=id st';exact⟨u,rfl,zmh (s:={ s with heap:=h' }) e c d (by decide) ⟨x,H,I1,ru,⟨rfl,λys hy=>by rw[I.list_inj hy hq];exact hx⟩,st',λb hb=>(hf b hb).1⟩⟩
 done:=by
  intro X hP hw hK hc i pins s σ H E I hf st hg;subst hP hw hK;obtain⟨xs,hq,hx⟩:=hg;obtain⟨its,rv,p,hz⟩:=I.list hq;obtain⟨f0,f1,f2,f3,f4,f5⟩:=hf it (by simp);have hl:=rv.length;exact wpAny_pyNext_list_end (I.ok.hd hc) st p.isList (by simp;omega) λh' eb=>⟨rfl,I.turned (t':=s.toks) (λb o hb e=>eb b o hb e) f0 f1 f3 f4 f5⟩
 self:=λ_ _ _ _ _ st h=>wpAny_pyIter_listiter st h
theorem zhx{P:Program}{w:World}{K:PySem.W.Frag}{tg:Expr}(a it:Addr):zfa P w K tg (Itt K a) [it] it (λi h=>h.IsTupleIter it a i) where
 mem:=by simp
 obj:=λi h st b hb=>by
  have e:b=it:=by simpa using hb
  subst e;obtain⟨o,e,c,d⟩:=st;exact⟨o,e,λv z=>by rw[d]at z;cases z⟩
 keep:=λi h h' st k=>st.at λo e=>k it (by simp) o e
 item:=by
  intro X hP hw hK hc i pins s σ H E I hf st hg;subst hP hw hK;obtain⟨xs,x,hq,hx⟩:=hg;obtain⟨its,rv,p,hz⟩:=I.tuple hq;obtain⟨u,hu,ru⟩:=rv.get hx;obtain⟨f0,f1,f2,f3,f4,f5⟩:=hf it (by simp);refine wpAny_pyNext_tuple_item st (show s.heap.IsTuple a its.toArray from p) (x:=u) (by simpa using hu) λh' st' sb=>?_;have I1:Inv X pins σ H { s with heap:=h' }:=I.turned (t':=s.toks) (λb o hb e=>(sb.2 b hb).trans e) f0 f1 f3 f4 f5;obtain⟨o,e,c,d⟩:=id st';exact⟨u,rfl,zmh (s:={ s with heap:=h' }) e c d (by decide) ⟨x,H,I1,ru,⟨rfl,λys hy=>by rw[I.tuple_inj hy hq];exact hx⟩,st',λb hb=>(hf b hb).1⟩⟩
 done:=by
  intro X hP hw hK hc i pins s σ H E I hf st hg;subst hP hw hK;obtain⟨xs,hq,hx⟩:=hg;obtain⟨its,rv,p,hz⟩:=I.tuple hq;obtain⟨f0,f1,f2,f3,f4,f5⟩:=hf it (by simp);have hl:=rv.length;exact wpAny_pyNext_tuple_end (I.ok.hd hc) st (show s.heap.IsTuple a its.toArray from p) (by simp;omega) λh' eb=>⟨rfl,I.turned (t':=s.toks) (λb o hb e=>eb b o hb e) f0 f1 f3 f4 f5⟩
 self:=λ_ _ _ _ _ st h=>wpAny_pyIter_tupleiter st h
theorem zhy{P:Program}{w:World}{K:PySem.W.Frag}{tg:Expr}(it:Addr)(lo:Int)(n:Nat):zfa P w K tg (Itr lo n) [it] it (λi h=>IsRangeIter h it (lo+(i:Nat) * 1) ((n:Int)-(i:Nat)) 1) where
 mem:=by simp
 obj:=λi h st b hb=>by
  have e:b=it:=by simpa using hb
  subst e;exact⟨_,st,λv z=>by
   have z':Data.fields _=Data.cell v:=z
   cases z'⟩
 keep:=λi h h' st k=>k it (by simp) _ st
 item:=by
  intro X hP hw hK hc i pins s σ H E I hf st hg;subst hP hw hK;obtain⟨f0,f1,f2,f3,f4,f5⟩:=hf it (by simp);have W:=Walks.range (prog:=X.prog) (w:=X.w) (I.ok.hd hc) it lo 1 n;refine W.item i s _ _ hg st λv h' tk hv st' kk=>?_;obtain⟨t,rfl⟩:=hv;have I1:Inv X pins σ H { s with heap:=h',toks:=tk }:=I.turned (λb o hb e=>kk b o (by simpa using hb) e) f0 f1 f3 f4 f5;refine⟨_,rfl,zmh (s:={ s with heap:=h',toks:=tk }) (n := "range_iterator") st' rfl rfl (by decide) ⟨.int (lo+i),H,I1,⟨t,?_⟩,⟨rfl,rfl⟩,st',λb hb=>(hf b hb).1⟩⟩;rw[Int.mul_one]
 done:=by
  intro X hP hw hK hc i pins s σ H E I hf st hg;subst hP hw hK;obtain⟨f0,f1,f2,f3,f4,f5⟩:=hf it (by simp);exact wpAny_pyNext_range_end (I.ok.hd hc) st (by have:n<=i:=hg;omega) λh' eb=>⟨rfl,I.turned (t':=s.toks) (λb o hb e=>eb b o hb e) f0 f1 f3 f4 f5⟩
 self:=λ_ _ _ _ _ st h=>wpAny_pyIter_rangeiter st h
section
variable {X:Cx}{tg:Expr}
theorem zmi{pins:List (Addr×Obj)}{σ:St}{H:Hp}{s:Shared}{R:It->Hp->Prop}{E:Value->Shared->Prop}{lo hi:Int}{t u v:Tok}{tk:Nat}(I:Inv X pins σ H s)(h1 : -(2 ^ 62)<=lo)(h2:lo<2 ^ 62)(h3 : -(2 ^ 62)<=hi)(h4:hi<2 ^ 62)
  (q:R (Itr lo (hi-lo).toNat) H):wpAny (model X.prog X.w) X.A (pyIter (.ref s.heap.objs.size)) (PIE X pins σ tg R) E { s with heap:=s.heap.push { cls:=.type "range",data:=.fields #[.int lo t,.int hi u,.int 1 v] },toks:=tk }:=by
 refine wpAny_pyIter_range (IsRange.new ..) (small_one h1 h2 h3 h4) ?_;have I1:Inv X pins σ H { s with heap:=s.heap.push { cls:=.type "range",data:=.fields #[.int lo t,.int hi u,.int 1 v] },toks:=tk }:=I.kept λb o e=>Heap.get?_push_of_some _ e;refine⟨(s.heap.push { cls:=.type "range",data:=.fields #[.int lo t,.int hi u,.int 1 v] }).objs.size,[(s.heap.push { cls:=.type "range",data:=.fields #[.int lo t,.int hi u,.int 1 v] }).objs.size],_,_,H,rfl,
  I1.kept (t':=tk) λb o e=>Heap.get?_push_of_some _ e,zhy _ lo (hi-lo).toNat,?_,λb hb=>?_,q⟩
 ·have e1:lo+((0:Nat):Int) * 1=lo:=by simp
  have e2:(((hi-lo).toNat:Nat):Int)-((0:Nat):Int)=Builtin.Range.rangeSize lo hi 1:=by rw[rangeSize_one];split <;> omega
  show IsRangeIter _ _ (lo+((0:Nat):Int) * 1) ((((hi-lo).toNat:Nat):Int)-((0:Nat):Int)) 1;rw[e1,e2];exact Heap.get?_push_size _ rfl
 ·have e:b=(s.heap.push { cls:=.type "range",data:=.fields #[.int lo t,.int hi u,.int 1 v] }).objs.size:=by simpa using hb
  subst e;exact I1.fpOk (Nat.le_refl _) (I1.hok.fresh (Nat.le_refl _))
def zue(ta:TA):TI:=λσ H R=>ta σ H λvs H1=>∃j:Int,vs = [.int j]/\-(2 ^ 62)<=j/\j<2 ^ 62/\R (Itr 0 j.toNat) H1
theorem zks{a:Expr}{ta:TA}{p pos:Pos}(hg:Gl X "range")(hm:X.mg "range" = none)(ha:PA X [a] ta)(hs:starEach [a] X.env = [(false,eval a X.env)]:=by rfl):PI X tg (.Call (.Name "range" p) [a] [] pos) (zue ta):=by
 intro pins s σ H R I h;refine Call_ (v6 I hg hm boot_range (PyProof.Rows.callWith_type1 (thn (ha pos pins s σ H _ I h) λus s1 ⟨vs,H1,I1,r1,q1⟩=>?_) hs rfl));obtain⟨j,e,q1,q2,q⟩:=q1;subst e
 cases r1 with
 |cons r rr=>
  cases rr;obtain⟨t,rfl⟩:=r;exact call_range_1 (zmi I1 (by omega) (by omega) q1 q2 (by simpa using q))
def zv3(wi:TI)(g:TG)(tb:TS):TS:=λD σ H=>wi σ H λJ H1=>∃W:Nat->Nat->St->Hp->Prop,(∃m,W 0 m σ H1)/\∀i m σ H,W i m σ H ->
 (J.stop i H/\D.nx σ H)\/(J.go i H/\∃N:St->Hp->Prop,(∀σ' H',N σ' H'->∃m',m' < m/\W (i+1) m' σ' H')/\∀x H',J.yld i H x H'->g x σ H' λσ2 H2=>tb { D with nx:=N,ct:=N,bk:=D.nx } σ2 H2)
def zaj(fp:List Addr)(h:Heap):List (Addr×Obj):=fp.filterMap λb=>(h.get? b).map λo=>(b,o)
theorem we{fp:List Addr}{h:Heap}{b:Addr}{o:Obj}(hb:b∈fp)(e:h.get? b=some o):(b,o)∈zaj fp h:=List.mem_filterMap.mpr ⟨b,hb,by rw[e];rfl⟩
theorem zkt{fp:List Addr}{h:Heap}{p:Addr×Obj}(hp:p∈zaj fp h):p.1∈fp/\h.get? p.1=some p.2:=by
 obtain⟨b,hb,e⟩:=List.mem_filterMap.mp hp
 cases q:h.get? b with
 |none=>rw[q]at e;cases e
 |some o=>
  rw[q]at e;have e':(b,o)=p:=Option.some.inj e;subst e';exact⟨hb,q⟩
theorem Inv.pinned{pins:List (Addr×Obj)}{σ:St}{H:Hp}{s:Shared}{fp:List Addr}(I:Inv X pins σ H s)(hf:∀b∈fp,FpOk X pins H b)(ho:∀b∈fp,∃o,s.heap.get? b=some o/\∀v,o.data ≠ .cell v):Inv X (pins++zaj fp s.heap) σ H s :=
 I.pins_of λp hp=>(List.mem_append.mp hp).elim (λz=>I.pin p (List.mem_append_right _ z)) λz=>by
  obtain⟨hb,e⟩:=zkt z;obtain⟨f0,f1,f2,_⟩:=hf p.1 hb;obtain⟨o,e',d⟩:=ho p.1 hb;rw[e]at e';cases e';exact⟨e,f0,f1,f2,d⟩
theorem Inv.unpinned{pins pl:List (Addr×Obj)}{σ:St}{H:Hp}{s:Shared}(I:Inv X (pins++pl) σ H s):Inv X pins σ H s:=I.pins_of λp hp=>I.pin p (List.mem_append_right _ (List.mem_append_left _ hp))
theorem zrm{iter:Expr}{body:List Stmt}{wi:TI}{g:TG}{tb:TS}{pos:Pos}(hp:PassesOwn (model X.prog X.w) X.A X.env X.xe)(hc:X.calm=true)(hi:PI X tg iter wi)(hg:PG X tg g)(hb:PSs X body tb)
  (hs:∀x,foldedSetIterable iter X.env x=pure x:=by intro _;rfl):PS X (.For tg iter body [] pos) (zv3 wi g tb):=by
 intro pins s σ H D I h;refine wpAny_For (thn (hi pins s σ H _ I h) λv s1 h1=>thn h1 λitv s2 h2=>?_) hs;obtain⟨it,fp,tn,J,H2,e,I2,T,st2,f2,W,⟨m0,w0⟩,turn⟩:=h2;subst e
 -- what stays true of the iterator's objects through the loop
 have stat:∀{H':Hp},(∀b∈fp,H' b=none)->∀b∈fp,FpOk X pins H' b:=λhn b hb=>⟨hn b hb,(f2 b hb).2⟩
 refine codeAny_forLoop_any (λn s'=>∃i σ' H',Inv X pins σ' H' s'/\tn i s'.heap/\(∀b∈fp,H' b=none)/\W i n σ' H') ?_ m0 ⟨0,σ,H2,I2,st2,λb hb=>(f2 b hb).1,w0⟩;rintro n s3 ⟨i,σ3,H3,I3,st3,fr3,w3⟩;rcases turn i n σ3 H3 w3 with⟨stop,qn⟩ |⟨go,N,hN,step⟩
 ·refine wpAny_passesOwn hp (thn (T.done X rfl rfl rfl hc i pins s3 σ3 H3 X.xe I3 (stat fr3) st3 stop) λr s4 ⟨hr,I4⟩=>?_);subst hr;exact wpAny_execs_nil ⟨σ3,H3,I4,qn⟩
 ·refine wpAny_passesOwn hp (thn (T.item X rfl rfl rfl hc i pins s3 σ3 H3 X.xe I3 (stat fr3) st3 go) λr s4 ⟨u,hr,h4⟩=>?_);subst hr;refine wpAny_passesOwn hp (thn h4 λ_ s5 ⟨x,H5,I5,r5,y5,st5,fr5⟩=>?_);have I5':=I5.pinned (stat fr5) (T.obj _ _ st5);refine wpAny_passesOwn hp (thn (hg _ s5 σ3 H5 x u _ I5' r5 (step x H5 y5)) λ_ s6 ⟨σ6,H6,I6,q6⟩=>?_);refine wpAny_passesOwn hp (thn (hb _ s6 σ6 H6 _ I6 q6) λf s7 q7=>?_)
  have again:∀{σ7:St}{H7:Hp},Inv X (pins++zaj fp s5.heap) σ7 H7 s7->N σ7 H7->∃m,m<n/\∃i σ' H',Inv X pins σ' H' s7/\tn i s7.heap/\(∀b∈fp,H' b=none)/\W i m σ' H':=λ{σ7 H7} I7 n7=>by
   obtain⟨m',hm,w7⟩:=hN σ7 H7 n7;refine⟨m',hm,i+1,σ7,H7,I7.unpinned,T.keep _ _ _ st5 λb hb o e=>(I7.pin (b,o) (List.mem_append_right _ (List.mem_append_right _ (we hb e)))).1,λb hb=>?_,w7⟩;obtain⟨o,e,d⟩:=T.obj _ _ st5 b hb;exact(I7.pin (b,o) (List.mem_append_right _ (List.mem_append_right _ (we hb e)))).2.1
  cases f with
  |next=>obtain⟨σ7,H7,I7,n7⟩:=q7;exact again I7 n7
  |cont=>obtain⟨σ7,H7,I7,n7⟩:=q7;exact again I7 n7
  |brk=>obtain⟨σ7,H7,I7,q7⟩:=q7;exact⟨σ7,H7,I7.unpinned,q7⟩
  |ret v=>obtain⟨x7,σ7,H7,I7,r7,q7⟩:=q7;exact⟨x7,σ7,H7,I7.unpinned,r7,q7⟩
end
abbrev R2:=V->V->Hp->VK->Prop
def OpR(X:Cx)(f:Value->Value->Sem Value)(r:R2):Prop :=
 ∀(pins:List (Addr×Obj)) (s:Shared) (σ:St) (H:Hp) (x y:V) (v u:Value) (Q:VK),Inv X pins σ H s->RelV x v->RelV y u->r x y H Q ->
  wpAny (model X.prog X.w) X.A (f v u) (EP X pins σ Q) X.xe s
def UnR(X:Cx)(f:Value->Sem Value)(r:V->Hp->VK->Prop):Prop :=
 ∀(pins:List (Addr×Obj)) (s:Shared) (σ:St) (H:Hp) (x:V) (v:Value) (Q:VK),Inv X pins σ H s->RelV x v->r x H Q ->
  wpAny (model X.prog X.w) X.A (f v) (EP X pins σ Q) X.xe s
def v7(X:Cx)(f:Value)(r:List V->Hp->VK->Prop):Prop :=
 ∀(pins:List (Addr×Obj)) (s:Shared) (σ:St) (H:Hp) (xs:List V) (us:List Value) (Q:VK),Inv X pins σ H s->Vals xs us->r xs H Q ->
  wpAny (model X.prog X.w) X.A (call f us) (EP X pins σ Q) X.xe s
def zv4(X:Cx)(r:V->Hp->(Bool->Hp->Prop)->Prop):Prop :=
 ∀(pins:List (Addr×Obj)) (s:Shared) (σ:St) (H:Hp) (x:V) (v:Value) (Q:Bool->Hp->Prop),Inv X pins σ H s->RelV x v->r x H Q ->
  wpAny (model X.prog X.w) X.A (truthy v) (TP X pins σ Q) X.xe s
def tOp(r:R2)(ta tb:TE):TE:=λσ H Q=>ta σ H λx H1=>tb σ H1 λy H2=>r x y H2 Q
def tUn(r:V->Hp->VK->Prop)(ta:TE):TE:=λσ H Q=>ta σ H λx H1=>r x H1 Q
def rI(C:Int->Int->Prop)(g:Int->Int->V):R2:=λx y H Q=>∃i j,x=.int i/\y=.int j/\C i j/\Q (g i j) H
def rI0(g:Int->Int->V):R2:=λx y H Q=>∃i j,x=.int i/\y=.int j/\Q (g i j) H
def rU(g:Int->V):V->Hp->VK->Prop:=λx H Q=>∃i,x=.int i/\Q (g i) H
section
variable {X:Cx}{a b c:Expr}{ta tb tc:TE}{pos:Pos}
theorem zuf(ha:PE X a ta)(hb:PE X b tb){pins:List (Addr×Obj)}{s:Shared}{σ:St}{H:Hp}{R:V->V->Hp->Prop}(I:Inv X pins σ H s)
  (h:ta σ H λx H1=>tb σ H1 λy H2=>R x y H2) {Q:Value->Shared->Prop}{f:Value->Value->Sem Value}
  (hf:∀v u s2 x y H2,Inv X pins σ H2 s2->RelV x v->RelV y u->R x y H2->wpAny (model X.prog X.w) X.A (f v u) Q X.xe s2) :
  wpAny (model X.prog X.w) X.A (eval a X.env) (λv s₁=>wpAny (model X.prog X.w) X.A (eval b X.env) (λu s₂=>wpAny (model X.prog X.w) X.A (f v u) Q X.xe s₂) X.xe s₁) X.xe s:=by
 refine thn (ha pins s σ H _ I h) λv s1 ⟨x,H1,I1,r1,q1⟩=>?_;refine thn (hb pins s1 σ H1 _ I1 q1) λu s2 ⟨y,H2,I2,r2,q2⟩=>?_;exact hf v u s2 x y H2 I2 r1 r2 q2
theorem zgi{op:Operator}{r:R2}(ho:OpR X (binaryOp op) r)(ha:PE X a ta)(hb:PE X b tb):PE X (.BinOp a op b pos) (tOp r ta tb):=by
 intro pins s σ H Q I h;exact wpAny_BinOp (zuf ha hb I h λv u s2 x y H2 I2 rx ry q=>ho pins s2 σ H2 x y v u Q I2 rx ry q)
theorem zug{op:UnaryOp}{r:V->Hp->VK->Prop}(ho:UnR X (unaryOp op) r)(ha:PE X a ta):PE X (.UnaryOp op a pos) (tUn r ta):=by
 intro pins s σ H Q I h;exact UnaryOp_ (thn (ha pins s σ H _ I h) λv s1 ⟨x,H1,I1,r1,q1⟩=>ho pins s1 σ H1 x v Q I1 r1 q1)
theorem opI{f:Value->Value->Sem Value}{C:Int->Int->Prop}{g:Int->Int->Int}
  (rule:∀(i j:Int) (t u:Tok) (s:Shared) (Q:Value->Shared->Prop) (E:Value->Shared->Prop),C i j->Q (.int (g i j) s.toks) { s with toks:=s.toks+1 }->wpAny (model X.prog X.w) X.A (f (.int i t) (.int j u)) Q E s) :
  OpR X f (rI C λi j=>.int (g i j)):=by
 intro pins s σ H x y v u Q I rx ry h;obtain⟨i,j,rfl,rfl,hc,q⟩:=h;obtain⟨t,rfl⟩:=rx;obtain⟨t',rfl⟩:=ry;exact rule i j t t' s _ _ hc ⟨.int (g i j),H,I.tok _,⟨_,rfl⟩,q⟩
theorem zuh{f:Value->Value->Sem Value}{g:Int->Int->Int}
  (rule:∀(i j:Int) (t u:Tok) (s:Shared) (Q:Value->Shared->Prop) (E:Value->Shared->Prop),Q (.int (g i j) s.toks) { s with toks:=s.toks+1 }->wpAny (model X.prog X.w) X.A (f (.int i t) (.int j u)) Q E s) :
  OpR X f (rI0 λi j=>.int (g i j)):=by
 intro pins s σ H x y v u Q I rx ry h;obtain⟨i,j,rfl,rfl,q⟩:=h;obtain⟨t,rfl⟩:=rx;obtain⟨t',rfl⟩:=ry;exact rule i j t t' s _ _ ⟨.int (g i j),H,I.tok _,⟨_,rfl⟩,q⟩
theorem zo3{f:Value->Value->Sem Value}{g:Int->Int->Bool}
  (rule:∀(i j:Int) (t u:Tok) (s:Shared) (Q:Value->Shared->Prop) (E:Value->Shared->Prop),Q (.bool (g i j)) s->wpAny (model X.prog X.w) X.A (f (.int i t) (.int j u)) Q E s) :
  OpR X f (rI0 λi j=>.bl (g i j)):=by
 intro pins s σ H x y v u Q I rx ry h;obtain⟨i,j,rfl,rfl,q⟩:=h;obtain⟨t,rfl⟩:=rx;obtain⟨t',rfl⟩:=ry;exact rule i j t t' s _ _ ⟨.bl (g i j),H,I,rfl,q⟩
def zui(i j:Int):Prop:=0<=j/\j<=1000000/\i.natAbs<2 ^ 64
def CMul(i j:Int):Prop:=(-(2 ^ 64)<i/\i<2 ^ 64)\/(-(2 ^ 64)<j/\j<2 ^ 64)
theorem CMul.ok{i j:Int}(h:CMul i j):IntMulOk i j:=by
 rcases h with⟨h1,h2⟩ |⟨h1,h2⟩
 ·exact .of_left (intBits_le_64 h1 h2)
 ·exact .of_right (intBits_le_64 h1 h2)
theorem zmj:OpR X (binaryOp .Add) (rI0 λi j=>.int (i+j)):=zuh λ_ _ _ _ _ _ _ q=>add_int q
theorem zrn:OpR X (binaryOp .Sub) (rI0 λi j=>.int (i-j)):=zuh λ_ _ _ _ _ _ _ q=>sub_int q
theorem zro:OpR X (binaryOp .Mult) (rI CMul λi j=>.int (i * j)):=opI λ_ _ _ _ _ _ _ hc q=>mul_int q hc.ok
theorem zhz:OpR X (binaryOp .Mod) (rI (λ_ j=>0<j) λi j=>.int (i % j)):=opI λi j _ _ _ _ _ hc q=>by
 have h1:(0:Int)<j:=hc;exact mod_int' (by omega) (by rw[Int.fmod_eq_emod_of_nonneg i (by omega)];exact q)
theorem zrp:OpR X (binaryOp .Pow) (rI zui λi j=>.int (i ^ j.toNat)):=opI λ_ _ _ _ _ _ _ hc q=>pow_int_small hc.1 hc.2.1 hc.2.2 q
theorem unI{f:Value->Sem Value}{g:Int->Int}
  (rule:∀(i:Int) (t:Tok) (s:Shared) (Q:Value->Shared->Prop) (E:Value->Shared->Prop),Q (.int (g i) s.toks) { s with toks:=s.toks+1 }->wpAny (model X.prog X.w) X.A (f (.int i t)) Q E s) :
  UnR X f (rU λi=>.int (g i)):=by
 intro pins s σ H x v Q I rx h;obtain⟨i,rfl,q⟩:=h;obtain⟨t,rfl⟩:=rx;exact rule i t s _ _ ⟨.int (g i),H,I.tok _,⟨_,rfl⟩,q⟩
theorem zrq:UnR X (unaryOp .USub) (rU λi=>.int (-i)):=unI λ_ _ _ _ _ q=>neg_int q
end
def zrr:V->V->Bool
 |.non,.non=>true|.non,.int _=>true|.int _,.non=>true|.non,.bl _=>true|.bl _,.non=>true|.non,.str _=>true|.str _,.non=>true
 |.int _,.int _=>true|.bl _,.bl _=>true|.str _,.str _=>true|.byt _,.byt _=>true
 |.int _,.str _=>true|.str _,.int _=>true|.bl _,.str _=>true|.str _,.bl _=>true
 |_,_=>false
def rEq:R2:=λx y H Q=>zrr x y=true/\Q (.bl (decide (x=y))) H
def rNe:R2:=λx y H Q=>zrr x y=true/\Q (.bl (!decide (x=y))) H
theorem zjc{i j:Int}:decide (V.int i=V.int j)=(i == j):=by
 rw[Bool.eq_iff_iff];simp
theorem zmk{i j:Bool}:decide (V.bl i=V.bl j)=(i == j):=by
 rw[Bool.eq_iff_iff];simp
theorem zjd{i j:Str}:decide (V.str i=V.str j)=(i == j):=by
 rw[Bool.eq_iff_iff];simp
theorem zje{i j:Array UInt8}:decide (V.byt i=V.byt j)=(i.toList == j.toList):=by
 rw[Bool.eq_iff_iff]
 cases i
 cases j;simp
section
variable {X:Cx}{a b c:Expr}{ta tb tc:TE}{pos:Pos}
theorem yq{pins:List (Addr×Obj)}{σ:St}{H:Hp}{s:Shared}{Q:VK}{k k':Bool}(I:Inv X pins σ H s)(q:Q (.bl k) H)(e:k=k'):EP X pins σ Q (.bool k') s:=by
 subst e;exact⟨.bl k,H,I,rfl,q⟩
theorem zqv:OpR X (compareOp .Eq) rEq:=by
 intro pins s σ H x y v u Q I rx ry h;obtain⟨hs,q⟩:=h
 cases x with
 |non=>
  cases rx
  cases y with
  |non=>cases ry;exact PySem.EqNone.eq_none_none (yq I q (by simp))
  |bl j=>cases ry;exact PySem.EqNone.eq_none_bool (yq I q (by simp))
  |int j=>obtain⟨t',rfl⟩:=ry;exact PySem.EqNone.eq_none_int (yq I q (by simp))
  |str j=>obtain⟨t',rfl⟩:=ry;exact PySem.EqNone.eq_none_str (yq I q (by simp))
  |_=>exact absurd (show false=true from hs) Bool.false_ne_true
 |bl i=>
  cases rx
  cases y with
  |non=>cases ry;exact PySem.EqNone.eq_bool_none (yq I q (by simp))
  |bl j=>cases ry;exact eq_bool (yq I q zmk)
  |str j=>obtain⟨t',rfl⟩:=ry;exact PySem.EqMixed.eq_bool_str (yq I q (by simp))
  |_=>exact absurd (show false=true from hs) Bool.false_ne_true
 |int i=>
  obtain⟨t,rfl⟩:=rx
  cases y with
  |non=>cases ry;exact PySem.EqNone.eq_int_none (yq I q (by simp))
  |int j=>obtain⟨t',rfl⟩:=ry;exact eq_int (yq I q zjc)
  |str j=>obtain⟨t',rfl⟩:=ry;exact PySem.EqMixed.eq_int_str (yq I q (by simp))
  |_=>exact absurd (show false=true from hs) Bool.false_ne_true
 |str i=>
  obtain⟨t,rfl⟩:=rx
  cases y with
  |non=>cases ry;exact PySem.EqNone.eq_str_none (yq I q (by simp))
  |bl j=>cases ry;exact PySem.EqMixed.eq_str_bool (yq I q (by simp))
  |int j=>obtain⟨t',rfl⟩:=ry;exact PySem.EqMixed.eq_str_int (yq I q (by simp))
  |str j=>obtain⟨t',rfl⟩:=ry;exact eq_str (yq I q zjd)
  |_=>exact absurd (show false=true from hs) Bool.false_ne_true
 |byt i=>
  obtain⟨t,rfl⟩:=rx
  cases y with
  |byt j=>obtain⟨t',rfl⟩:=ry;exact PySem.W.eq_bytes (yq I q zje)
  |_=>exact absurd (show false=true from hs) Bool.false_ne_true
 |_=>cases y <;> exact absurd (show false=true from hs) Bool.false_ne_true
theorem zuj:OpR X (compareOp .NotEq) rNe:=by
 intro pins s σ H x y v u Q I rx ry h;obtain⟨hs,q⟩:=h
 cases x with
 |non=>
  cases rx
  cases y with
  |non=>cases ry;exact PySem.EqNone.ne_none_none (yq I q (by simp))
  |bl j=>cases ry;exact PySem.EqNone.ne_none_bool (yq I q (by simp))
  |int j=>obtain⟨t',rfl⟩:=ry;exact PySem.EqNone.ne_none_int (yq I q (by simp))
  |str j=>obtain⟨t',rfl⟩:=ry;exact PySem.EqNone.ne_none_str (yq I q (by simp))
  |_=>exact absurd (show false=true from hs) Bool.false_ne_true
 |bl i=>
  cases rx
  cases y with
  |non=>cases ry;exact PySem.EqNone.ne_bool_none (yq I q (by simp))
  |bl j=>cases ry;exact ne_bool (yq I q (congrArg not zmk))
  |str j=>obtain⟨t',rfl⟩:=ry;exact PySem.EqMixed.ne_bool_str (yq I q (by simp))
  |_=>exact absurd (show false=true from hs) Bool.false_ne_true
 |int i=>
  obtain⟨t,rfl⟩:=rx
  cases y with
  |non=>cases ry;exact PySem.EqNone.ne_int_none (yq I q (by simp))
  |int j=>obtain⟨t',rfl⟩:=ry;exact ne_int (yq I q (congrArg not zjc))
  |str j=>obtain⟨t',rfl⟩:=ry;exact PySem.EqMixed.ne_int_str (yq I q (by simp))
  |_=>exact absurd (show false=true from hs) Bool.false_ne_true
 |str i=>
  obtain⟨t,rfl⟩:=rx
  cases y with
  |non=>cases ry;exact PySem.EqNone.ne_str_none (yq I q (by simp))
  |bl j=>cases ry;exact PySem.EqMixed.ne_str_bool (yq I q (by simp))
  |int j=>obtain⟨t',rfl⟩:=ry;exact PySem.EqMixed.ne_str_int (yq I q (by simp))
  |str j=>obtain⟨t',rfl⟩:=ry;exact ne_str (yq I q (congrArg not zjd))
  |_=>exact absurd (show false=true from hs) Bool.false_ne_true
 |byt i=>
  obtain⟨t,rfl⟩:=rx
  cases y with
  |byt j=>obtain⟨t',rfl⟩:=ry;exact PySem.W.ne_bytes (yq I q (congrArg not zje))
  |_=>exact absurd (show false=true from hs) Bool.false_ne_true
 |_=>cases y <;> exact absurd (show false=true from hs) Bool.false_ne_true
theorem zuk:OpR X (compareOp .Lt) (rI0 λi j=>.bl (decide (i<j))):=zo3 λ_ _ _ _ _ _ _ q=>lt_int q
theorem zul:OpR X (compareOp .LtE) (rI0 λi j=>.bl (decide (i<=j))):=zo3 λ_ _ _ _ _ _ _ q=>le_int q
theorem zqw:OpR X (compareOp .Gt) (rI0 λi j=>.bl (decide (j<i))):=zo3 λ_ _ _ _ _ _ _ q=>gt_int q
theorem zum:OpR X (compareOp .GtE) (rI0 λi j=>.bl (decide (j<=i))):=zo3 λ_ _ _ _ _ _ _ q=>ge_int q
theorem zrs:OpR X (compareOp .Is) (λx y H Q=>y=.non/\Q (.bl (decide (x=.non))) H):=by
 intro pins s σ H x y v u Q I rx ry h;obtain⟨rfl,q⟩:=h
 cases ry;refine is_none_gen (yq I q ?_)
 cases x <;> first
  |(cases rx;rfl)
  |(obtain⟨t,rfl⟩:=rx;rfl)
theorem zo4:OpR X (compareOp .IsNot) (λx y H Q=>y=.non/\Q (.bl (!decide (x=.non))) H):=by
 intro pins s σ H x y v u Q I rx ry h;obtain⟨rfl,q⟩:=h
 cases ry;refine isnot_none_gen (yq I q ?_)
 cases x <;> first
  |(cases rx;rfl)
  |(obtain⟨t,rfl⟩:=rx;rfl)
theorem yd(b:Expr){op:CmpOp}(h:op ≠ .In:=by decide)(h2:op ≠ .NotIn:=by decide):behindInMarks op b=false:=by
 have e1:(op == CmpOp.In)=false:=by cases op <;> first|rfl|exact absurd rfl h
 have e2:(op == CmpOp.NotIn)=false:=by cases op <;> first|rfl|exact absurd rfl h2
 cases b <;> simp[behindInMarks,e1,e2]
def zun(t:TE):TT:=λσ H Q=>t σ H λx H'=>∃k,x=.bl k/\Q k H'
theorem zjf{op:CmpOp}{r:R2}(ho:OpR X (compareOp op) r)(ha:PE X a ta)(hb:PE X b tb)(hm:behindInMarks op b=false):PT X (.Compare a [op] [b] pos) (zun (tOp r ta tb)):=by
 intro pins s σ H Q I h;refine wpAny_isTrue_Compare1 (thn (ha pins s σ H _ I h) λv s1 ⟨x,H1,I1,r1,q1⟩=>thn (hb pins s1 σ H1 _ I1 q1) λu s2 ⟨y,H2,I2,r2,q2⟩=>
  thn (ho pins s2 σ H2 x y v u _ I2 r1 r2 q2) λc s3 ⟨z,H3,I3,r3,k,e,q3⟩=>?_) hm
 subst e
 cases r3;exact wpAny_truthy_bool ⟨H3,I3,q3⟩
def zrt(K:PySem.W.Frag)(x:V)(H:Hp)(k:Bool):Prop :=
 match x with
 |.non=>k=false
 |.bl b=>k=b
 |.int i=>k=(i != 0)
 |.str y=>y.length<=sizeLine/\k=((y.length:Int) != 0)
 |.byt y=>y.size<=sizeLine/\k=((y.size:Int) != 0)
 |.ref p=>(∃xs,SqL K H p xs/\k = !xs.isEmpty)\/(∃xs,SqT K H p xs/\k = !xs.isEmpty)\/∃kvs,H p=some (.dK kvs)/\k = !kvs.isEmpty
 |_=>False
theorem zh0{κ:Type}{kvs:List (κ×V)}{vs:List (κ×Value)}(r:KV kvs vs):(!vs.isEmpty) = !kvs.isEmpty:=by
 cases r <;> rfl
theorem zcp{xs:List V}{its:List Value}(r:Vals xs its):(!its.toArray.isEmpty) = !xs.isEmpty:=by
 cases r <;> simp
theorem zak:(sizeLine:Nat)<2 ^ 63:=by rw[sizeLine_eq];decide
theorem zru:zv4 X (λx H Q=>∃k,zrt X.K x H k/\Q k H):=by
 intro pins s σ H x v Q I rx h;obtain⟨k,e,q⟩:=h;have hl:=zak;have hs:sizeLine=16777216:=sizeLine_eq
 cases x with
 |non=>
  cases rx;have e':k=false:=e;subst e';exact truthy_none ⟨H,I,q⟩
 |bl b=>
  cases rx;have e':k=b:=e;subst e';exact wpAny_truthy_bool ⟨H,I,q⟩
 |int i=>
  obtain⟨t,rfl⟩:=rx;have e':k=(i != 0):=e;subst e';exact PySem.P.truthy_int ⟨H,I,q⟩
 |str y=>
  obtain⟨t,rfl⟩:=rx;obtain⟨hy,e'⟩:y.length<=sizeLine/\k=((y.length:Int) != 0):=e;subst e';exact PySem.P.truthy_str (by omega) ⟨H,I.tok _,q⟩
 |byt y=>
  obtain⟨t,rfl⟩:=rx;obtain⟨hy,e'⟩:y.size<=sizeLine/\k=((y.size:Int) != 0):=e;subst e';exact PySem.W.truthy_bytes (by omega) ⟨H,I.tok _,q⟩
 |ref p=>
  cases rx;have e':(∃xs,SqL X.K H p xs/\k = !xs.isEmpty)\/(∃xs,SqT X.K H p xs/\k = !xs.isEmpty)\/∃kvs,H p=some (.dK kvs)/\k = !kvs.isEmpty:=e;rcases e' with⟨xs,hx,e'⟩ |⟨xs,hx,e'⟩ |⟨kvs,hx,e'⟩
  ·subst e';obtain⟨its,r,pl,hz⟩:=I.list hx;have hlen:=r.length;exact wpAny_truthy_list pl.isList (by simp only[List.size_toArray];omega) ⟨H,I.tok _,by rw[zcp r];exact q⟩
  ·subst e';obtain⟨its,r,pl,hz⟩:=I.tuple hx;have hlen:=r.length;exact truthy_tuple pl (by simp only[List.size_toArray];omega) ⟨H,I.tok _,by rw[zcp r];exact q⟩
  ·subst e';obtain⟨hz,hS,vs,r,m⟩:kvs.length<=sizeLine/\(p == sysModules)=false/\∃vs,KV kvs vs/\s.heap.DictOf (wd X.prog X.w) p vs:=I.hok p _ hx;have hlen:kvs.length=vs.length:=Paired.length r;exact wpAny_truthy_dict hS m (by omega) ⟨H,I.tok _,by rw[zh0 r];exact q⟩
 |_=>exact(show False from e).elim
theorem zml(ha:PE X a ta)(he:∀whole,isTrue a X.env whole=(do let v <-whole;standAt a.pos;holding [v] (truthy v))):
  PT X a (λσ H Q=>ta σ H λx H'=>∃k,zrt X.K x H' k/\Q k H'):=by
 intro pins s σ H Q I h;exact isTrue_plain (thn (ha pins s σ H _ I h) λv s1 ⟨x,H1,I1,r1,q1⟩=>zru pins s1 σ H1 x v Q I1 r1 q1) (he _)
theorem zh1:OpR X (binaryOp .Add) (λx y H Q=>∃i j,x=.str i/\y=.str j/\i.length+j.length<=sizeLine/\Q (.str (i++j)) H):=by
 intro pins s σ H x y v u Q I rx ry h;obtain⟨i,j,rfl,rfl,hz,q⟩:=h;obtain⟨t,rfl⟩:=rx;obtain⟨t',rfl⟩:=ry;exact add_str (λt' tk=>⟨.str (i++j),H,I.tok _,⟨_,rfl⟩,q⟩) hz
theorem zgj{x:V}{us:List Value}(r:Vals [x] us):∃u,us = [u]/\RelV x u:=by
 cases r with
 |cons r1 r2=>cases r2;exact⟨_,rfl,r1⟩
theorem zuo{x y:V}{us:List Value}(r:Vals [x,y] us):∃u w',us = [u,w']/\RelV x u/\RelV y w':=by
 cases r with
 |cons r1 r2=>
  cases r2 with
  |cons r3 r4=>cases r4;exact⟨_,_,rfl,r1,r3⟩
theorem zku(hc:X.calm=true):v7 X (.builtin "max") (λxs H Q=>∃i j,xs = [.int i,.int j]/\Q (.int (if j > i then j else i)) H):=by
 intro pins s σ H xs us Q I r h;obtain⟨i,j,rfl,q⟩:=h;obtain⟨u,w',rfl,⟨t,rfl⟩,⟨t',rfl⟩⟩:=zuo r;refine max_two_ints (I.ok.hd hc) λh' tk k=>⟨_,H,I.kept k,?_,q⟩
 by_cases hj:j > i
 ·rw[if_pos hj,if_pos hj];exact⟨_,rfl⟩
 ·rw[if_neg hj,if_neg hj];exact⟨_,rfl⟩
theorem zkv:v7 X (.type "int") (λxs H Q=>(∃i,xs = [.int i]/\Q (.int i) H)\/∃k,xs = [.bl k]/\Q (.int (if k then 1 else 0)) H):=by
 intro pins s σ H xs us Q I r h;rcases h with⟨i,rfl,q⟩ |⟨k,rfl,q⟩
 ·obtain⟨u,rfl,t,rfl⟩:=zgj r;exact call_int_int ⟨.int i,H,I,⟨_,rfl⟩,q⟩
 ·obtain⟨u,rfl,r1⟩:=zgj r
  cases r1;exact call_int_bool ⟨.int (if k then 1 else 0),H,I.tok _,⟨_,rfl⟩,q⟩
def zv5(K:PySem.W.Frag)(x:V)(H:Hp)(n:Nat):Prop :=
 match x with
 |.str y=>y.length<=sizeLine/\n=y.length
 |.byt y=>y.size<=sizeLine/\n=y.size
 |.ref p=>(∃xs,SqL K H p xs/\n=xs.length)\/∃xs,SqT K H p xs/\n=xs.length
 |_=>False
theorem zmm:v7 X (.builtin "len") (λxs H Q=>∃x n,xs = [x]/\zv5 X.K x H n/\Q (.int n) H):=by
 intro pins s σ H xs us Q I r h;obtain⟨x,n,rfl,e,q⟩:=h;obtain⟨u,rfl,rx⟩:=zgj r;have hl:=zak;have hs:sizeLine=16777216:=sizeLine_eq
 cases x with
 |str y=>
  obtain⟨t,rfl⟩:=rx;obtain⟨hy,e'⟩:y.length<=sizeLine/\n=y.length:=e;subst e';exact len_str (by omega) ⟨.int _,H,I.tok _,⟨_,rfl⟩,q⟩
 |byt y=>
  obtain⟨t,rfl⟩:=rx;obtain⟨hy,e'⟩:y.size<=sizeLine/\n=y.size:=e;subst e';exact PySem.W.len_bytes (by omega) ⟨.int _,H,I.tok _,⟨_,rfl⟩,q⟩
 |ref p=>
  cases rx;have e':(∃xs,SqL X.K H p xs/\n=xs.length)\/∃xs,SqT X.K H p xs/\n=xs.length:=e;rcases e' with⟨xs,hx,e'⟩ |⟨xs,hx,e'⟩
  ·subst e';obtain⟨its,r',pl,hz⟩:=I.list hx;have hlen:=r'.length;exact Calls.call_len_list pl.isList (by simp only[List.size_toArray];omega) ⟨.int xs.length,H,I.tok _,⟨_,by simp only[List.size_toArray];rw[hlen]⟩,q⟩
  ·subst e';obtain⟨its,r',pl,hz⟩:=I.tuple hx;have hlen:=r'.length;exact len_tuple pl (by simp only[List.size_toArray];omega) ⟨.int xs.length,H,I.tok _,⟨_,by simp only[List.size_toArray];rw[hlen]⟩,q⟩
 |_=>exact(show False from e).elim
end
structure zwx(h:Heap)(x dx C:Addr)(mA:Str->Option Value):Prop where
 obj:h.get? x=some (PySem.W.instObj C dx)
 ns:h.Ns1 dx mA
 ne:dx≠x
section
variable {prog:Program}{w:World}{A:Around}{E:Value->Shared->Prop}{s:Shared}{K:PySem.W.Frag}{x dx C f:Addr}{mA:Str->Option Value}{name:Str}{v:Value}
end
theorem RelO.some_of{v:V}{o:Option Value}(r:RelO (some v) o):∃u,o=some u/\RelV v u:=by
 cases o with
 |none=>exact(show False from r).elim
 |some u=>exact⟨u,rfl,r⟩
section
variable {P:Program}{w:World}{H H':Hp}{h h':Heap}{a C dx:Addr}{fs fs':List (Str×V)}
end
structure Cls(K:PySem.W.Frag)(C:Addr):Prop where
 pg:PySem.W.plainGet K C Str.empty=true
 hd:PySem.W.hasDictIn K C=true
 po:PySem.W.plainOver K C=true
 sa:PySem.W.findIn K (.ref C) "__setattr__" = some (some (.builtin "object.__setattr__"))
theorem Cls.get{K:PySem.W.Frag}{C:Addr}(c:Cls K C)(f:Str):PySem.W.plainGet K C f=true:=c.pg
def zrv(K:PySem.W.Frag)(C:Addr)(f:Str):Prop:=PySem.W.findIn K (.ref C) f=some none
structure Con(K:PySem.W.Frag)(C:Addr)(f:Str)(v:V)(u:Value):Prop where
 at_:PySem.W.findIn K (.ref C) f=some (some u)
 rel:RelV v u
 get:PySem.W.specialIn K u "__get__" = some none
 cp:PySem.W.copiedNames.contains f=false
structure zwy(K:PySem.W.Frag)(C:Addr)(m:Str)(f:Addr):Prop where
 at_:PySem.W.findIn K (.ref C) m=some (some (.ref f))
 fn:PySem.W.isFn K (.ref f)=true
 kp:PySem.W.keepIn K (.ref f)=true
section
variable {X:Cx}{pins:List (Addr×Obj)}{σ:St}{H:Hp}{s:Shared}{a C dx:Addr}{fs:List (Str×V)}{f:Str}{v:V}{A:Around}{E:Value->Shared->Prop}
end
section
variable {X:Cx}{o e value:Expr}{f:Str}{pos pos' tpos:Pos}{ta tv:TE}
end
section
variable {X:Cx}{pins:List (Addr×Obj)}{σ:St}{H:Hp}{s:Shared}{A:Around}{E:Value->Shared->Prop}{Q:Value->Shared->Prop}{c:Value}{b:Bool}
inductive zcq(K:PySem.W.Frag)(H:Hp):V->Value->Prop where
 |non:zcq K H .non (.type "NoneType")
 |bl (x:Bool):zcq K H (.bl x) (.type "bool")
 |int (i:Int):zcq K H (.int i) (.type "int")
 |str (x:Str):zcq K H (.str x) (.type "str")
 |flt (x:UInt64):zcq K H (.flt x) (.type "float")
 |lst {a:Addr}{xs:List V} (e:H a=some (.lst xs)):zcq K H (.ref a) (.type "list")
 |frz {a:Addr}{o:Obj}{xs:List V} (e:H a=some (.frz o (.lst xs))):zcq K H (.ref a) (.type "list")
 |tup {a:Addr}{xs:List V} (e:H a=some (.tup xs)):zcq K H (.ref a) (.type "tuple")
 |dK {a:Addr}{kvs:List (Key×V)} (e:H a=some (.dK kvs)):zcq K H (.ref a) (.type "dict")
 |dT {a:Addr}{kvs:List (List Key×V)} (e:H a=some (.dT kvs)):zcq K H (.ref a) (.type "dict")
 |ins {a C dx:Addr}{fs:List (Str×V)} (e:H a=some (.ins C dx fs)) (cl:Cls K C) (ha:PySem.W.findIn K (.ref C) "__class__" = some (some (.builtin "object.__class__")))
   (hn:PySem.W.specialIn K (.builtin "object.__class__") "__get__" = some (some (.builtin "getset_descriptor.__get__"))) (htk:PySem.W.takesIn K (.builtin "object.__class__")=some true)
   (hm:PySem.W.mroIn K C (.type "object")=some true):zcq K H (.ref a) (.ref C)
end
structure Room(k:Nat)(A:Around):Prop where
 hd:A.handled=none
 dp:A.depth+3 * k+5<recursionLimit
 un:A.units+16 * k+200<cLine
 gd:A.guards=some []
theorem Room.mono{j k:Nat}{A:Around}(r:Room k A)(h:j<=k):Room j A:=⟨r.hd,by have:=r.dp;omega,by have:=r.un;omega,r.gd⟩
theorem Room.deeper{k:Nat}{A:Around}(r:Room (k+1) A)(env:Env):Room k (A.deeper env) :=
 ⟨r.hd,by have:=r.dp;show A.depth+1+3 * k+5<_;omega,by have:=r.un;show A.units+3+16 * k+200<_;omega,r.gd⟩
theorem Room.in1{k:Nat}{A:Around}(r:Room (k+1) A):Room k A.in1 :=
 ⟨r.hd,by have:=r.dp;show A.depth+3 * k+5<_;omega,by have:=r.un;show A.units+1+16 * k+200<_;omega,r.gd⟩
theorem Room.depth{k:Nat}{A:Around}(r:Room k A):A.depth<recursionLimit:=by have:=r.dp;omega
theorem Room.units{k:Nat}{A:Around}(r:Room k A):A.units+64<cLine:=by have:=r.un;omega
def zv6:TA:=λ_ H Q=>Q [] H
def zup(ta:TE)(tr:TA):TA:=λσ H Q=>ta σ H λx H1=>tr σ H1 λxs H2=>Q (x::xs) H2
section
variable {X:Cx}{e:Expr}{es:List Expr}{te:TE}{t:TA}{pos:Pos}
theorem vf:PA X [] zv6:=λ_ _ _ _ H Q I h=>Calls.spliced_nil ⟨[],H,I,.nil,h⟩
theorem xz(ha:PE X e te)(hr:PA X es t)(hs:starEach (e::es) X.env=(false,eval e X.env)::starEach es X.env:=by rfl):PA X (e::es) (zup te t):=by
 intro pos pins s σ H Q I h;rw[hs];show wpAny _ _ (spliced ((false,eval e X.env)::backTo pos (starEach es X.env))) _ _ s;refine Calls.spliced_cons (thn (ha pins s σ H _ I h) λu s1 ⟨x,H1,I1,r1,q1⟩=>?_);exact thn (hr pos pins s1 σ H1 _ I1 q1) λus s2 ⟨xs,H2,I2,r2,q2⟩=>⟨x::xs,H2,I2,.cons r1 r2,q2⟩
def zv7(t:TA):TE:=λσ H Q=>t σ H λxs H1=>xs.length<=sizeLine/\∀p,H1 p=none->Q (.ref p) (upd H1 p (.tup xs))
def zv8(t:TA):TE:=λσ H Q=>t σ H λxs H1=>xs.length<=sizeLine/\∀p,H1 p=none->Q (.ref p) (upd H1 p (.lst xs))
theorem zrw{x1}(h:PA X es t):PE X (.Tuple es x1 pos) (zv7 t):=by
 intro pins s σ H Q I hq;refine wpAny_Tuple_spliced (thn (h pos pins s σ H _ I hq) λus s1 ⟨xs,H1,I1,r,z,q⟩=>⟨by rw[<-r.length];exact z,?_⟩);have hf:H1 s1.heap.objs.size=none:=I1.hok.fresh (Nat.le_refl _);refine⟨.ref s1.heap.objs.size,upd H1 s1.heap.objs.size (.tup xs),I1.laid (t':=s1.toks) (λb u e=>Heap.get?_push_of_some _ e) (Nat.le_refl _) ?_,rfl,q _ hf⟩;exact⟨z,us,r,⟨_,Heap.get?_push_size _ rfl,rfl,⟨_,rfl⟩,rfl⟩⟩
theorem zrx(h:PA X es t):PE X (.List es pos) (zv8 t):=by
 intro pins s σ H Q I hq;refine wpAny_List_spliced (thn (h pos pins s σ H _ I hq) λus s1 ⟨xs,H1,I1,r,z,q⟩=>⟨by rw[<-r.length];exact z,?_⟩);have hf:H1 s1.heap.objs.size=none:=I1.hok.fresh (Nat.le_refl _);refine⟨.ref s1.heap.objs.size,upd H1 s1.heap.objs.size (.lst xs),I1.laid (t':=s1.toks) (λb u e=>Heap.get?_push_of_some _ e) (Nat.le_refl _) ?_,rfl,q _ hf⟩;exact⟨z,us,0,r,Heap.get?_push_size _ rfl⟩
end
abbrev Sp:=List V->Hp->VK->XK->Prop
abbrev CXT:=List Env->Hp->Shared->XK->Value->Shared->Prop
structure Env0(P:Program)(w:World)(K:PySem.W.Frag)(mg:Str->Option Value)(base:Heap)(A:Around)(outer:List Env)(s:Shared)(H:Hp):Prop where
 frames:A.frames=some outer
 mod:Mod K mg base
 bs:∀b o,base.get? b=some o->s.heap.get? b=some o/\H b=none
 bsz:base.objs.size<=s.heap.objs.size
 funs:s.heap.FunFrames base outer
 frf:∀b∈frs outer,H b=none
 hok:HOk P w H s.heap
 bare:AllBare s.gens
def CE(outer:List Env)(P:Program)(w:World)(H:Hp)(s:Shared)(Q:VK)(u:Value)(s':Shared):Prop :=
 ∃v H',s'.os=s.os/\AllBare s'.gens/\Un (frs outer) [] H H' s.heap s'.heap/\HOk P w H' s'.heap/\RelV v u/\Q v H'
def CR(CX:CXT)(outer:List Env)(P:Program)(w:World)(H:Hp)(s:Shared)(Q:VK)(E:XK)(r:Result)(s':Shared):Prop :=
 match r with
 |.ok (.ret u)=>CE outer P w H s Q u s'
 |.ok _=>False
 |.error e=>CX outer H s E e s'
structure FnOk(P:Program)(w:World)(K:PySem.W.Frag)(mg:Str->Option Value)(base:Heap)(CX:CXT)(k:Nat)(f:Addr)(fd:FuncData)(ps:List Str)(sp:Sp):Prop where
 len:∀vs H Q E,sp vs H Q E->vs.length=ps.length
 run:∀(A:Around) (outer:List Env) (s:Shared) (H:Hp) (args:Args) (us:List Value) (vs:List V) (Q:VK) (E:XK),Room k A->Env0 P w K mg base A outer s H->BindsTo s fd args (ps.zip us)->Vals vs us->sp vs H Q E ->
  codeAny (model P w) A (.call (.ref f) args) (CR CX outer P w H s Q E) s
theorem FnOk.mono{P:Program}{w:World}{K:PySem.W.Frag}{mg:Str->Option Value}{base:Heap}{CX:CXT}{j k:Nat}{f:Addr}{fd:FuncData}{ps:List Str}{sp:Sp}(F:FnOk P w K mg base CX j f fd ps sp)(h:j<=k):
  FnOk P w K mg base CX k f fd ps sp:=⟨F.len,λA outer s H args us vs Q E hr=>F.run A outer s H args us vs Q E (hr.mono h)⟩
theorem FnOk.imp{P:Program}{w:World}{K:PySem.W.Frag}{mg:Str->Option Value}{base:Heap}{CX:CXT}{k:Nat}{f:Addr}{fd:FuncData}{ps:List Str}{sp sp':Sp}(F:FnOk P w K mg base CX k f fd ps sp)
  (h:∀vs H Q E,sp' vs H Q E->sp vs H Q E):FnOk P w K mg base CX k f fd ps sp' :=
 ⟨λvs H Q E q=>F.len vs H Q E (h _ _ _ _ q),λA outer s H args us vs Q E hr he hb hv hs=>F.run A outer s H args us vs Q E hr he hb hv (h _ _ _ _ hs)⟩
theorem Env0.in1{P:Program}{w:World}{K:PySem.W.Frag}{mg:Str->Option Value}{base:Heap}{A:Around}{outer:List Env}{s:Shared}{H:Hp}(e:Env0 P w K mg base A outer s H):
  Env0 P w K mg base A.in1 outer s H:=⟨e.frames,e.mod,e.bs,e.bsz,e.funs,e.frf,e.hok,e.bare⟩
section
variable {X:Cx}{pins:List (Addr×Obj)}{σ:St}{H:Hp}{s s':Shared}
theorem Inv.env0(I:Inv X pins σ H s):Env0 X.prog X.w X.K X.mg X.base X.A X.stack s H :=
 ⟨I.ok.frames,I.ok.mod,I.bs,Nat.le_trans I.ok.bsz I.sz,I.stack,I.stkFree,I.hok,I.bare⟩
theorem Inv.after{Q:VK}{u:Value}(I:Inv X pins σ H s)(h:CE X.stack X.prog X.w H s Q u s'):EP X pins σ Q u s':=by
 obtain⟨v,H',os,bare,un,hok,r,q⟩:=h;obtain⟨hh,g,d,t,os'⟩:=s';obtain rfl:os'=s.os:=os;exact⟨v,H',I.call (h':=hh) (g':=g) (d':=d) (t':=t) (ch:=[]) un hok bare (λb z=>absurd z (by simp)),r,q⟩
end
def zmn(sp:Sp)(dvs:List V)(E:XK)(t:TA):TE:=λσ H Q=>t σ H λvs H1=>sp (vs++dvs) H1 Q E
def Binds(K:PySem.W.Frag)(fd:FuncData)(ps:List Str)(ds:List Value):Prop :=
 ∀(s:Shared) (us:List Value),K.In s.heap->(us++ds).length=ps.length->BindsTo s fd ⟨us,[]⟩ (ps.zip (us++ds))
theorem Binds.all{K:PySem.W.Frag}{fd:FuncData}{ps:List Str}(h:∀us:List Value,us.length=ps.length->bindArgs fd ⟨us,[]⟩=pure (ps.zip us)):Binds K fd ps []:=λs us _ hl=>by
 rw[List.append_nil]at hl ⊢;exact .of_eq (h us hl)
def zh2(CX:CXT)(X:Cx)(E:XK):Prop:=∀(pins:List (Addr×Obj)) (σ:St) (H:Hp) (s:Shared) (e:Value) (s':Shared),Inv X pins σ H s->CX X.stack H s E e s'->X.xe e s'
section
variable {X:Cx}{CX:CXT}{k:Nat}{f C:Addr}{fd:FuncData}{ps:List Str}{sp:Sp}{dvs:List V}{ds:List Value}{E:XK}{x m:Str}{p pos apos:Pos}{e o:Expr}{es:List Expr}{ta:TE}{t:TA}
theorem zmo{pins:List (Addr×Obj)}{σ:St}{H:Hp}{s:Shared}{Q:VK}{us:List Value}{vs:List V}(F:FnOk X.prog X.w X.K X.mg X.base CX k f fd ps sp)(hr:Room k X.A)(hb:Binds X.K fd ps ds)(hd:Vals dvs ds)(hx:zh2 CX X E)
  (I:Inv X pins σ H s) (r:Vals vs us) (h:sp (vs++dvs) H Q E):wpAny (model X.prog X.w) X.A (call (.ref f) us) (EP X pins σ Q) X.xe s:=by
 have r2:Vals (vs++dvs) (us++ds):=r.append hd;have hl:(us++ds).length=ps.length:=by rw[<-r2.length];exact F.len _ _ _ _ h
 refine wpAny_call (codeAny_mono (F.run X.A X.stack s H ⟨us,[]⟩ (us++ds) (vs++dvs) Q E hr I.env0 (hb s us I.kIn hl) r2 h) λr s' hq=>?_)
 cases r with
 |error e=>exact hx pins σ H s e s' I hq
 |ok fl=>
  cases fl with
  |ret u=>exact I.after hq
  |next=>exact False.elim hq
  |brk=>exact False.elim hq
  |cont=>exact False.elim hq
theorem zo5(F:FnOk X.prog X.w X.K X.mg X.base CX k f fd ps sp)(hr:Room k X.A)(hg:Gl X x)(hm:X.mg x=some (.ref f))(hk:PySem.W.keepIn X.K (.ref f)=true)(hb:Binds X.K fd ps ds)(hd:Vals dvs ds)(hx:zh2 CX X E)
  (ha:PA X (e::es) t) (hdb:(x ==("__debug__" : Str))=false:=by decide) (he:starEach (e::es) X.env=(false,eval e X.env)::starEach es X.env:=by rfl) (hpl:(backTo pos (starEach es X.env)).any (·.1)=false:=by rfl) :
  PE X (.Call (.Name x p) (e::es) [] pos) (zmn sp dvs E t):=by
 intro pins s σ H Q I h;refine wpAny_Call_Name_kw (ze9 I hg hm ?_ hdb);refine PySem.W.callWith_K (h₀:=X.base) I.ok.mod.kin hk (thn (ha pos pins s σ H _ I h) λus s1 ⟨vs,H1,I1,r,q⟩=>⟨I1.kIn,?_⟩) he hpl;exact zmo F hr hb hd hx I1 r q
structure Mk(K:PySem.W.Frag)(C f:Addr):Prop where
 makes:PySem.W.makesIn K C=true
 init:PySem.W.findIn K (.ref C) "__init__" = some (some (.ref f))
 fn:PySem.W.isFn K (.ref f)=true
 kp:PySem.W.keepIn K (.ref C)=true
end
section
variable {X:Cx}{CX:CXT}{k:Nat}{f C:Addr}{fd:FuncData}{ps ks:List Str}{sp:Sp}{E:XK}{x m:Str}{p pos apos kpos:Pos}{e o:Expr}{es:List Expr}{kws:List Keyword}{te ta:TE}{t tk:TA}{nm:Option Str}
structure zv9(K:PySem.W.Frag)(fd:FuncData)(ps ks:List Str)(g:List Value->List Value->List Value)(gV:List V->List V->List V):Prop where
 to:∀(s:Shared) (us ws:List Value),K.In s.heap->(g us ws).length=ps.length->BindsTo s fd ⟨us,ks.zip ws⟩ (ps.zip (g us ws))
 rel:∀{vs:List V}{us:List Value}{zs:List V}{ws:List Value},Vals vs us->Vals zs ws->Vals (gV vs zs) (g us ws)
variable {g:List Value->List Value->List Value}{gV:List V->List V->List V}
end
structure z9(N P:List Str)(sc:Scope):Prop where
 kind:sc.kind=.function
 co:sc.isCoroutine=false
 gen:sc.isGenerator=false
 nd:N.Nodup
 pre:N.take P.length=P
 par:∀x∈P,sc.names.lookup x=some .local\/sc.names.lookup x=some .cell
 nofree:∀y∈sc.names,y.2 ≠ .free
theorem zec{kindOf:Str->Option NameKind}{x:Str}:∀{binds:List (Str×Value)}{m:Str->Option Value},(∀v,(x,v)∉binds)->bindL kindOf binds m x=m x
 |[],_,_=>rfl
 |(n,v)::r,m,h=>by
  unfold bindL;rw[zec λw hw=>h w (List.mem_cons_of_mem _ hw)]
  split
  ·have:x≠n:=by rintro rfl;exact h v List.mem_cons_self
   simp[this]
  ·rfl
theorem zed{kindOf:Str->Option NameKind}{x:Str}:∀{binds:List (Str×Value)}{m:Str->Option Value},(∀v,(x,v)∉binds)->bindC kindOf binds m x=m x
 |[],_,_=>rfl
 |(n,v)::r,m,h=>by
  unfold bindC;rw[zed λw hw=>h w (List.mem_cons_of_mem _ hw)]
  split
  ·rfl
  ·have:x≠n:=by rintro rfl;exact h v List.mem_cons_self
   simp[this]
theorem zee{kindOf:Str->Option NameKind}{x:Str}{v:Value}:∀{P:List Str}{vs:List Value}{i:Nat}{m:Str->Option Value},P.Nodup->P[i]?=some x->vs[i]?=some v->kindOf x=some .local ->
  bindL kindOf (P.zip vs) m x=some v
 |[],_,_,_,_,h,_,_=>by simp at h
 |_::_,[],_,_,_,_,h,_=>by simp at h
 |p::P,w::vs,0,m,nd,h1,h2,hk=>by
  simp at h1 h2;subst h1;subst h2;show bindL kindOf ((p,w)::P.zip vs) m p=_;unfold bindL;rw[zec λv hv=>(List.nodup_cons.mp nd).1 (List.of_mem_zip hv).1,if_pos hk];simp
 |p::P,w::vs,i+1,m,nd,h1,h2,hk=>by
  show bindL kindOf ((p,w)::P.zip vs) m x=_;unfold bindL;exact zee (i:=i) (List.nodup_cons.mp nd).2 (by simpa using h1) (by simpa using h2) hk
theorem zef{kindOf:Str->Option NameKind}{x:Str}{v:Value}:∀{P:List Str}{vs:List Value}{i:Nat}{m:Str->Option Value},P.Nodup->P[i]?=some x->vs[i]?=some v->kindOf x≠some .local ->
  bindC kindOf (P.zip vs) m x=some v
 |[],_,_,_,_,h,_,_=>by simp at h
 |_::_,[],_,_,_,_,h,_=>by simp at h
 |p::P,w::vs,0,m,nd,h1,h2,hk=>by
  simp at h1 h2;subst h1;subst h2;show bindC kindOf ((p,w)::P.zip vs) m p=_;unfold bindC;rw[zed λv hv=>(List.nodup_cons.mp nd).1 (List.of_mem_zip hv).1,if_neg hk];simp
 |p::P,w::vs,i+1,m,nd,h1,h2,hk=>by
  show bindC kindOf ((p,w)::P.zip vs) m x=_;unfold bindC;exact zef (i:=i) (List.nodup_cons.mp nd).2 (by simpa using h1) (by simpa using h2) hk
def j7(N:List Str)(vs:List V):St:=vs.map some++List.replicate (N.length-vs.length) none
def zgk(CX:CXT)(P:Program)(w:World)(K:PySem.W.Frag)(mg:Str->Option Value)(base:Heap)(N:List Str)(qual:Str)(scope:Scope)(f:Addr)(cd:Value)(A:Around)(outer:List Env)(s:Shared)(H:Hp)(E:XK):Cx where
 prog:=P
 w:=w
 K:=K
 mg:=mg
 base:=base
 A:=A.deeper (envOfC qual scope s.heap.objs.size f cd)
 N:=N
 s₀:=s
 H₀:=H
 env:=envOfC qual scope s.heap.objs.size f cd
 outer:=outer
 stack:=envOfC qual scope s.heap.objs.size f cd::outer
 ex:=[]
 calm:=true
 fn:=λ_=>true
 pn:=[]
 xe:=λe s'=>wpAny (model P w) (A.deeper (envOfC qual scope s.heap.objs.size f cd)) (leaving (envOfC qual scope s.heap.objs.size f cd) e) (λ_ s''=>CX outer H s E e s'') (λe' s''=>CX outer H s E e' s'') s'
theorem zgl{sc:Scope}{n:Nat}{x:Str}(h:sc.names.lookup x=some .cell):∃c,(cellsFrom n sc.names []).lookup x=some c:=by
 have q:=PySem.W.cellsFrom_some sc.names n [] (.inl h);exact Option.isSome_iff_exists.mp q
theorem zkw{CX:CXT}{P:Program}{w:World}{K:PySem.W.Frag}{mg:Str->Option Value}{base:Heap}{N ps:List Str}{qual:Str}{scope:Scope}{f:Addr}{cd:Value}{A:Around}{outer:List Env}{s s1:Shared}{H:Hp}{E:XK}{us:List Value}{vs:List V}
  (S:z9 N ps scope) (hd:A.handled=none) (e0:Env0 P w K mg base A outer s H) (hl:vs.length=ps.length) (r:Vals vs us)
  (x:InCallC s s.heap.objs.size (bindL (envOfC qual scope s.heap.objs.size f cd).kindOf (ps.zip us) λ_=>none) (cellsFrom (s.heap.objs.size+1) scope.names []) (bindC (envOfC qual scope s.heap.objs.size f cd).kindOf (ps.zip us) λ_=>none) s1) :
  Inv (zgk CX P w K mg base N qual scope f cd A outer s H E) [] (j7 N vs) H s1:=by
 have hpl:ps.length<=N.length:=by have:=congrArg List.length S.pre;rw[List.length_take]at this;omega
 obtain⟨h1,tk,rfl,hk⟩:=x.done;have noA:∀b:Addr,b∉(zgk CX P w K mg base N qual scope f cd A outer s H E).ex:=λb z=>absurd (show b∈([]:List Addr) from z) (by simp);refine⟨⟨e0.mod,S.kind,rfl,rfl,Nat.le_refl _,λy z c h1 h2=>?_,λy hy=>?_,λy c _ h=>?_,λ_=>hd,Around.frames_deeper e0.frames,.inr ⟨rfl,rfl⟩,λb z=>absurd z (noA b),e0.bs,e0.bsz,λb _ _=>noA b,λb z=>absurd z (noA b),e0.funs,e0.frf⟩,
  rfl,e0.bare,Un.kept hk,⟨_,x.toInCall.ns,λi y v h1 h2 h3=>?_⟩,λy c h=>⟨_,x.cell y c h⟩,e0.hok.fresh (Nat.le_refl _),λy c h=>?_,λp hp=>absurd (show p∈([]:List (Addr×Obj)) from hp) (by simp),e0.hok.kept hk,?_⟩
 ·exact name_of_addr x.apart (PySem.mem_of_lookup h1) (PySem.mem_of_lookup h2)
 ·have hy:scope.names.lookup y=some .cell\/scope.names.lookup y=some .free:=hy;rcases hy with hy|hy
  ·exact zgl hy
  ·exact absurd rfl (S.nofree _ (PySem.mem_of_lookup hy))
 ·exact Nat.le_of_lt (x.above y c (PySem.mem_of_lookup h))
 ·have hi:i<vs.length:=by
   unfold j7 at h2
   by_cases hi:i<vs.length
   ·exact hi
   ·rw[List.getElem?_append_right (by simpa using hi)]at h2;rw[List.getElem?_replicate]at h2
    split at h2 <;> cases h2
  have ha:vs[i]?=some v:=by
   unfold j7 at h2;rw[List.getElem?_append_left (by simpa using hi),List.getElem?_map]at h2
   cases e:vs[i]? with
   |none=>rw[e]at h2;cases h2
   |some a=>rw[e]at h2;cases h2;rfl
  obtain⟨u,hu,rv⟩:=r.get ha;have hp:ps[i]?=some y:=by
   rw[<-S.pre,List.getElem?_take_of_lt (by omega)];exact h1
  have ndP:ps.Nodup:=by rw[<-S.pre];exact S.nd.sublist (List.take_sublist _ _)
  refine⟨u,rv,?_⟩;rcases S.par y (List.mem_of_getElem? hp) with k|k
  ·exact .inl ⟨k,zee ndP hp hu k⟩
  ·obtain⟨c,e⟩:=zgl (n:=s.heap.objs.size+1) k;refine .inr ⟨.inl k,c,e,?_⟩;have q:=x.cell y c e;rw[zef ndP hp hu (by show scope.names.lookup y≠_;rw[k];decide)]at q;exact q
 ·exact e0.hok.fresh (Nat.le_of_lt (x.above y c (PySem.mem_of_lookup h)))
 ·unfold j7;show _=N.length;rw[List.length_append,List.length_map,List.length_replicate];omega
theorem zqx{CX:CXT}{P:Program}{w:World}{K:PySem.W.Frag}{mg:Str->Option Value}{base:Heap}{k:Nat}{f:Addr}{name qual:Str}{params:Arguments}{body:List Stmt}{scope:Scope}{dV kV doc pm cdv ct oc:Value}{an od:Option Addr}
  {osl:Array (Option Value)}{N ps:List Str}{sp:Sp} (lk:K.lookup f=some ⟨oc,od,.func (PySem.W.fnOf name qual params body scope dV kV doc pm an cdv ct),osl⟩) (hcd:PySem.W.codeIn K cdv qual=true) (S:z9 N ps scope)
  (len:∀vs H Q E,sp vs H Q E->vs.length=ps.length)
  (hbody:∀(A:Around) (outer:List Env) (s:Shared) (H:Hp) (vs:List V) (Q:VK) (E:XK),Room k (A.deeper (envOfC qual scope s.heap.objs.size f cdv))->sp vs H Q E ->
   ∃t,PSs (zgk CX P w K mg base N qual scope f cdv A outer s H E) body t/\t { nx:=λ_ H'=>Q .non H',rt:=Q } (j7 N vs) H) :
  FnOk P w K mg base CX (k+1) f (PySem.W.fnOf name qual params body scope dV kV doc pm an cdv ct) ps sp:=by
 refine⟨len,λA outer s H args us vs Q E hr e0 hb r hsp=>?_⟩;have hl:=len _ _ _ _ hsp;have KX:K.In s.heap:=e0.mod.kin.keeps λb o e=>(e0.bs b o e).1;have lim:s.heap.NoLimit:=e0.mod.nolimit.keeps λb o e=>(e0.bs b o e).1;have hkind:∀y∈ps.zip us,scope.names.lookup y.1=some .local\/(scope.names.lookup y.1=some .cell/\((cellsFrom (s.heap.objs.size+1) scope.names []).lookup y.1).isSome=true):=λ⟨n,v⟩ hy=>by
  rcases S.par n (List.of_mem_zip hy).1 with q|q
  ·exact .inl q
  ·exact .inr ⟨q,PySem.W.cellsFrom_some _ _ _ (.inl q)⟩
 refine codeAny_call_function hr.depth (KX _ _ lk) rfl S.co S.gen rfl (PySem.W.codeRec_of KX hcd) (hb _ _ _ _ ?_);refine wpAny_newFunctionEnv_cells S.kind hkind λenv he s1 x=>?_;subst he;refine⟨lim.keeps x.toInCall.keep,codeAny_func ?_⟩;obtain⟨t,ht,hq⟩:=hbody A outer s H vs Q E (hr.deeper _) hsp;have I:Inv (zgk CX P w K mg base N qual scope f cdv A outer s H E) [] (j7 N vs) H s1:=zkw S hr.hd e0 hl r x;refine wpAny_mono (ht [] s1 (j7 N vs) H _ I hq) (λfl s' hs=>?_) λe s' hs=>hs;have fin:∀{σ':St}{H':Hp}{v:V}{u:Value},Inv (zgk CX P w K mg base N qual scope f cdv A outer s H E) [] σ' H' s'->RelV v u->Q v H'->CE outer P w H s Q u s' :=
  λ{σ' H' v u} J rv q=>⟨v,H',J.os,J.bare,J.base,J.hok,rv,q⟩
 cases fl with
 |ret u=>
  obtain⟨v,σ',H',J,rv,q⟩:=hs;exact fin J rv q
 |next=>
  obtain⟨σ',H',J,q⟩:=hs;exact fin (v:=V.non) (u:=Value.none) J rfl q
 |brk=>
  obtain⟨_,_,_,q⟩:=hs;exact False.elim q
 |cont=>
  obtain⟨_,_,_,q⟩:=hs;exact False.elim q
section
variable {X:Cx}{x:Str}{p pos:Pos}{e:Expr}{es:List Expr}{t:TA}{id T:String}{r:List V->Hp->VK->Prop}
def tCB(r:List V->Hp->VK->Prop)(t:TA):TE:=λσ H Q=>t σ H λvs H1=>r vs H1 Q
theorem za0(hc:v7 X (.builtin id) r)(hg:Gl X x)(hm:X.mg x=none)(hv:bootBuiltins x=some (.builtin id))(ha:PA X (e::es) t)(hn:x ≠ "__name__" := by decide)(hdb:(x ==("__debug__" : Str))=false:=by decide)
  (he:starEach (e::es) X.env=(false,eval e X.env)::starEach es X.env:=by rfl) (hpl:(backTo pos (starEach es X.env)).any (·.1)=false:=by rfl):PE X (.Call (.Name x p) (e::es) [] pos) (tCB r t):=by
 intro pins s σ H Q I h;refine wpAny_Call_Name_kw (v6 I hg hm hv ?_ hn hdb);exact PyProof.Rows.callWith_builtin1 (thn (ha pos pins s σ H _ I h) λus s1 ⟨vs,H1,I1,r1,q1⟩=>hc pins s1 σ H1 vs us Q I1 r1 q1) he hpl
theorem zeg(hc:v7 X (.type T) r)(hg:Gl X x)(hm:X.mg x=none)(hv:bootBuiltins x=some (.type T))(ha:PA X (e::es) t)(hn:x ≠ "__name__" := by decide)(hdb:(x ==("__debug__" : Str))=false:=by decide)
  (he:starEach (e::es) X.env=(false,eval e X.env)::starEach es X.env:=by rfl) (hpl:(backTo pos (starEach es X.env)).any (·.1)=false:=by rfl):PE X (.Call (.Name x p) (e::es) [] pos) (tCB r t):=by
 intro pins s σ H Q I h;refine wpAny_Call_Name_kw (v6 I hg hm hv ?_ hn hdb);exact PyProof.Rows.callWith_type1 (thn (ha pos pins s σ H _ I h) λus s1 ⟨vs,H1,I1,r1,q1⟩=>hc pins s1 σ H1 vs us Q I1 r1 q1) he hpl
end
end L2
namespace HT
open PySem PyProof.Rows
section
open PySem.SeqAt
open PySem.AutoSeq1 (wpAny_loadPart')
open PySem.MeetsSeq PySem.MeetsSeq2 PySem.MeetsSeq3
end
section
variable {prog:Program}{w:World}{A:Around}{E:Value->Shared->Prop}{s:Shared}
theorem cat_tup{t b:Addr}{vs ws:List Value}{Q:Value->Shared->Prop}(ht:IsTup s.heap t vs.toArray)(hb:IsTup s.heap b ws.toArray)(hv:vs ≠ [])
  (h1:ws = []->Q (.ref t) s) (h2:ws ≠ []->Q (.ref s.heap.objs.size) { s with heap:=s.heap.push { cls:=.type "tuple",data:=.seq (vs++ws).toArray } })
  (hsz:vs.length+ws.length<=sizeLine):wpAny (model prog w) A (binaryOp .Add (.ref t) (.ref b)) Q E s:=by
 obtain⟨⟨cls,dd,data,sl⟩,ho,hc,n,hd⟩:=id ht;obtain⟨⟨cls2,dd2,data2,sl2⟩,ho2,hc2,n2,hd2⟩:=id hb;simp only at hc hd hc2 hd2;subst hc hd hc2 hd2;have e:vs.toArray++ws.toArray=(vs++ws).toArray:=by simp
 by_cases hw:ws = []
 ·exact concat_meets ⟨_,ho,rfl⟩ ⟨_,ho2,rfl⟩ noFill_tuple_add seq_tuple_add PySem.F.slot_tuple_add PySem.F.entry_tuple_add (PySem.F.args_tuple_add_2 _ _)
   (tuple_addW1 t b vs.toArray ws.toArray n n2 dd dd2 sl sl2 (by simpa using hv) (by simp[hw])) ⟨ho,ho2,h1 hw⟩
 ·refine concat_meets ⟨_,ho,rfl⟩ ⟨_,ho2,rfl⟩ noFill_tuple_add seq_tuple_add PySem.F.slot_tuple_add PySem.F.entry_tuple_add (PySem.F.args_tuple_add_2 _ _)
   (tuple_addW2 t b vs.toArray ws.toArray n n2 dd dd2 sl sl2 (by simpa using hv) (by simpa using hw) (by rw[List.size_toArray,List.size_toArray];exact hsz)) ⟨ho,ho2,?_⟩
  rw[e];exact h2 hw
def sIx(n d:Nat):Option Int->Nat
 |none=>d
 |some v=>if v<0 then (v+(n:Int)).toNat else min v.toNat n
theorem sIx_none(n d:Nat):sIx n d none=d:=rfl
theorem sIx_nat(n d k:Nat):sIx n d (some (k:Int))=min k n:=by
 show(if (k:Int)<0 then ((k:Int)+(n:Int)).toNat else min (k:Int).toNat n)=min k n;rw[if_neg (by omega),Int.toNat_natCast]
theorem zry(n d:Nat)(hd:d<=n)(o:Option Int):sIx n d o<=n:=by
 cases o with
 |none=>exact hd
 |some v=>
  show(if v<0 then (v+(n:Int)).toNat else min v.toNat n)<=n
  by_cases hv:v<0
  ·rw[if_pos hv];omega
  ·rw[if_neg hv];exact Nat.min_le_right _ _
theorem zjg(v:Int)(n d:Nat):(if v<0 then max (v+(n:Int)) 0 else min v (n:Int))=((sIx n d (some v):Nat):Int):=by
 show(if v<0 then max (v+(n:Int)) 0 else min v (n:Int))=(((if v<0 then (v+(n:Int)).toNat else min v.toNat n):Nat):Int)
 by_cases hv:v<0
 ·simp only[if_pos hv];omega
 ·simp only[if_neg hv];omega
theorem zh3(lo hi:Option Int)(n:Nat):Builtin.Slice.sliceAdjust lo hi 1 (n:Int)=(((sIx n 0 lo:Nat):Int),((sIx n n hi:Nat):Int)):=by
 have h1:¬ ((1:Int)<0):=by omega
 unfold Builtin.Slice.sliceAdjust;simp only[h1,if_false];refine Prod.ext ?_ ?_
 ·cases lo with
  |none=>rfl
  |some v=>exact zjg v n 0
 ·cases hi with
  |none=>rfl
  |some v=>exact zjg v n n
theorem zh4(i j:Nat):Builtin.Slice.slicePlaces (i:Int) (j:Int) 1=j-i:=by
 unfold Builtin.Slice.slicePlaces;have h1:(1:Int) > 0:=by omega
 simp only[h1,if_true,Int.ediv_one]
 split <;> omega
theorem zcr{v:Value}{o:Option Int}{Q:Option Int->Shared->Prop}(p:IsPart v o)(h:Q o s):wpAny (model prog w) A (Builtin.Slice.slicePartIndex v) Q E s:=by
 cases p with
 |none=>exact slicePart_none h
 |int i t=>exact slicePart_int h
theorem sliceApplied_gen{sl:Addr}{vl vu:Value}{lo hi:Option Int}{n:Nat}{Q:Int×Int×Nat->Shared->Prop}(hs:s.heap.IsSliceOf sl vl vu .none)(pl:IsPart vl lo)(pu:IsPart vu hi)
  (h:Q (((sIx n 0 lo:Nat):Int),1,sIx n n hi-sIx n 0 lo) s):wpAny (model prog w) A (Builtin.Slice.sliceApplied (.ref sl) (pure (n:Int))) Q E s:=by
 obtain⟨os,hos,hcs,hds⟩:=id hs;unfold Builtin.Slice.sliceApplied Builtin.Slice.sliceFields;refine wpAny_bind (wpAny_bind (wpAny_field hos hds (x:=vl) rfl (wpAny_bind (wpAny_field hos hds (x:=vu) rfl (wpAny_bind (wpAny_field hos hds (x:=.none) rfl (wpAny_pure ?_)))))));refine wpAny_bind (slicePart_none ?_);show wpAny _ _ (if ((1:Int) == 0)=true then _ else _) _ _ s;rw[if_neg (by decide)];refine wpAny_bind (zcr pl (wpAny_bind (zcr pu (wpAny_bind (wpAny_pure ?_)))));show wpAny _ _ (match Builtin.Slice.sliceAdjust lo hi 1 (n:Int) with |(lo,hi)=>pure (lo,(1:Int),Builtin.Slice.slicePlaces lo hi 1)) _ _ s;rw[zh3 lo hi n];show wpAny _ _ (pure (((sIx n 0 lo:Nat):Int),(1:Int),Builtin.Slice.slicePlaces ((sIx n 0 lo:Nat):Int) ((sIx n n hi:Nat):Int) 1)) _ _ s;rw[zh4];exact wpAny_pure h
theorem zmp(xs:Array Value)(i k:Nat):((List.range k).filterMap λ(m:Nat)=>xs[((i:Int)+(m:Int) * 1).toNat]?).toArray=((xs.toList.drop i).take k).toArray:=by
 have e:(λ(m:Nat)=>xs[((i:Int)+(m:Int) * 1).toNat]?)=λm=>xs[i+m]?:=by
  funext m
  have:((i:Int)+(m:Int) * 1).toNat=i+m:=by omega
  rw[this]
 rw[e];have:=pick_run xs i k;rw[List.filterMap_map]at this;have e2:((λx=>xs[x]?) ∘ λx=>i+x)=λm=>xs[i+m]?:=rfl;rw[e2]at this;rw[this]
theorem getItem_tuple_cut{t sl:Addr}{items:Array Value}{vl vu:Value}{lo hi:Option Int}{Q:Value->Shared->Prop}(ht:IsTup s.heap t items)(hs:s.heap.IsSliceOf sl vl vu .none)(pl:IsPart vl lo)(pu:IsPart vu hi)
  (hw:¬ (sIx items.size 0 lo=0/\sIx items.size items.size hi=items.size))
  (h:Q (.ref s.heap.objs.size) { s with heap:=s.heap.push { cls:=.type "tuple",data:=.seq ((items.toList.drop (sIx items.size 0 lo)).take (sIx items.size items.size hi-sIx items.size 0 lo)).toArray } })
  (hsz:items.size<=sizeLine):wpAny (model prog w) A (getItem (.ref t) (.ref sl)) Q E s:=by
 have htake:sizeOk (.seq ((items.toList.drop (sIx items.size 0 lo)).take (sIx items.size items.size hi-sIx items.size 0 lo)).toArray):=by
  show((items.toList.drop (sIx items.size 0 lo)).take (sIx items.size items.size hi-sIx items.size 0 lo)).toArray.size<=sizeLine;rw[List.size_toArray,List.length_take,List.length_drop,Array.length_toList];omega
 have hj:sIx items.size items.size hi<=items.size:=zry _ _ (Nat.le_refl _) hi;obtain⟨os,hos,hcs,hds⟩:=id hs;have hTs:s.TypeIs (.ref sl) "slice" :=⟨os,hos,hcs⟩
 unfold getItem
 try with_reducible refine wpAny_holding ?_
 first|refine wpAny_bind (wpAny_pure ?_)|skip
 refine wpAny_bind (wpAny_sequenceKey ht.typeIs (by decide) ?_);refine wpAny_bind (wpAny_callSpecial?_slot (name:=Str.ofString "__getitem__") ht.typeIs PyProof.Rows.slot_tuple_getitem
  (wpAny_call_entry PyProof.Rows.slot_tuple_getitem ht.typeIs entry_tuple_getitem ?_ (args_tuple_getitem _ _)))
 show wpAny _ _ (Builtin.Tuple.tupleItemsOf (.ref t) >>= _) _ _ s;refine wpAny_bind (tupleItemsOf_ ht ?_);refine wpAny_bind (wpAny_typeOf hTs ?_);rw[if_pos (by decide)];refine wpAny_bind (sliceApplied_gen hs pl pu ?_);have hno:¬ ((((sIx items.size 0 lo:Nat):Int) == 0 && (1:Int) == 1 && (sIx items.size items.size hi-sIx items.size 0 lo) == items.size)=true):=by
  intro q;rw[Bool.and_eq_true,Bool.and_eq_true]at q;have q1:((sIx items.size 0 lo:Nat):Int)=0:=eq_of_beq q.1.1;have q2:sIx items.size items.size hi-sIx items.size 0 lo=items.size:=eq_of_beq q.2;exact hw ⟨by omega,by omega⟩
 show wpAny _ _ (if (((sIx items.size 0 lo:Nat):Int) == 0 && (1:Int) == 1 && (sIx items.size items.size hi-sIx items.size 0 lo) == items.size)=true then _ else _) _ _ s;rw[if_neg hno,zmp]
 first
  |exact wpAny_bind (m:=Builtin.Tuple.tupleExact _) (wpAny_newObj_type (wpAny_pure ⟨_,rfl,wpAny_pure h⟩) htake)
  |exact wpAny_bind (m:=Builtin.Tuple.tupleExact _) (wpAny_newObj_type (wpAny_bind (wpAny_pure (wpAny_pure ⟨_,rfl,wpAny_pure h⟩))) htake)
  |exact wpAny_bind (wpAny_bind (m:=Builtin.Tuple.tupleExact _) (wpAny_newObj_type (wpAny_pure (wpAny_pure ⟨_,rfl,wpAny_pure h⟩)) htake))
  |exact wpAny_bind (wpAny_bind (m:=Builtin.Tuple.tupleExact _) (wpAny_newObj_type (wpAny_pure ⟨_,rfl,wpAny_pure h⟩) htake))
end
end HT
namespace L2
open PySem PySem.Spec PyProof.Rows
abbrev TO:=St->Hp->(Option Int->Hp->Prop)->Prop
def PO(X:Cx)(e:Option Expr)(t:TO):Prop :=
 ∀(pins:List (Addr×Obj)) (s:Shared) (σ:St) (H:Hp) (Q:Option Int->Hp->Prop),Inv X pins σ H s->t σ H Q ->
  wpAny (model X.prog X.w) X.A (evalPart e X.env) (λu s'=>∃o H',Inv X pins σ H' s'/\IsPart u o/\Q o H') X.xe s
def zo6:TO:=λ_ H Q=>Q none H
def zuq(t:TE):TO:=λσ H Q=>t σ H λx H1=>∃i,x=.int i/\Q (some i) H1
theorem qa{ns:List Int}:∀{us:List Value},Vals (ns.map V.int) us->IntsAre us ns:=by
 induction ns with
 |nil=>intro us r;rw[List.map_nil]at r;cases r;exact .nil
 |cons n ns ih=>
  intro us r;rw[List.map_cons]at r
  cases r with
  |cons r1 r2=>
   obtain⟨t,e⟩:=r1;subst e;exact .cons n t (ih r2)
section
variable {X:Cx}{e:Expr}{te:TE}{lo hi:Option Expr}{tl th:TO}{pos p2:Pos}
theorem zo7:PO X none zo6:=by
 intro pins s σ H Q I h;rw[evalPart_none];exact wpAny_pure ⟨none,H,I,.none,h⟩
theorem zo8(h:PE X e te):PO X (some e) (zuq te):=by
 intro pins s σ H Q I hw;rw[evalPart_some];refine thn (h pins s σ H _ I hw) λu s1 ⟨x,H1,I1,r1,q1⟩=>?_;obtain⟨i,rfl,q⟩:=q1;obtain⟨t,rfl⟩:=r1;exact⟨some i,H1,I1,.int i t,q⟩
def SlR(X:Cx)(r:V->Option Int->Option Int->Hp->VK->Prop):Prop :=
 ∀(pins:List (Addr×Obj)) (s:Shared) (σ:St) (H:Hp) (x:V) (v vl vu:Value) (lo hi:Option Int) (sl:Addr) (Q:VK),Inv X pins σ H s->RelV x v->s.heap.IsSliceOf sl vl vu .none->IsPart vl lo->IsPart vu hi->r x lo hi H Q ->
  ∃T id,typeLookup (.type T) "__getitem__" = pure (some (.builtin id))/\s.TypeIs v T/\wpAny (model X.prog X.w) X.A (getItem v (.ref sl)) (EP X pins σ Q) X.xe s
theorem SlR.or{r r':V->Option Int->Option Int->Hp->VK->Prop}(h:SlR X r)(h':SlR X r'):SlR X (λx lo hi H Q=>r x lo hi H Q\/r' x lo hi H Q):=by
 intro pins s σ H x v vl vu lo hi sl Q I rx hs pl pu q;rcases q with q|q
 ·exact h pins s σ H x v vl vu lo hi sl Q I rx hs pl pu q
 ·exact h' pins s σ H x v vl vu lo hi sl Q I rx hs pl pu q
def tSl(r:V->Option Int->Option Int->Hp->VK->Prop)(te:TE)(tl th:TO):TE:=λσ H Q=>te σ H λx H1=>tl σ H1 λl H2=>th σ H2 λu H3=>r x l u H3 Q
theorem zgm{r:V->Option Int->Option Int->Hp->VK->Prop}(hr:SlR X r)(he:PE X e te)(hl:PO X lo tl)(hu:PO X hi th):PE X (.Subscript e (.Slice lo hi none p2) pos) (tSl r te tl th):=by
 intro pins s σ H Q I h;refine Subscript_ (thn (he pins s σ H _ I h) λv s1 ⟨x,H1,I1,r1,q1⟩=>?_);refine wpAny_Slice (thn (hl pins s1 σ H1 _ I1 q1) λvl s2 ⟨l,H2,I2,pl,q2⟩=>thn (hu pins s2 σ H2 _ I2 q2) λvu s3 ⟨u,H3,I3,pu,q3⟩=>?_);rw[evalPart_none];refine wpAny_pure ?_;have I4:Inv X pins σ H3 { s3 with heap:=s3.heap.push { cls:=.type "slice",data:=.fields #[vl,vu,.none] } }:=I3.kept (t':=s3.toks) λb ob q=>Heap.get?_push_of_some _ q;obtain⟨T,id,hT,ht,hg⟩:=hr pins { s3 with heap:=s3.heap.push { cls:=.type "slice",data:=.fields #[vl,vu,.none] } } σ H3 x v vl vu l u s3.heap.objs.size Q I4 r1 (Heap.IsSliceOf.new ..) pl pu q3;show wpAny (model X.prog X.w) X.A (subscriptTail e (.Slice lo hi none p2) v (.ref s3.heap.objs.size)) (EP X pins σ Q) X.xe { s3 with heap:=s3.heap.push { cls:=.type "slice",data:=.fields #[vl,vu,.none] } };exact tail_any (ops:=[.ref s3.heap.objs.size,v]) ht hT hg (by with_unfolding_all rfl)
def zdv(xs:List V)(lo hi:Option Int):List V:=(xs.drop (HT.sIx xs.length 0 lo)).take (HT.sIx xs.length xs.length hi-HT.sIx xs.length 0 lo)
theorem zb0(xs:List V)(lo hi:Option Int):(zdv xs lo hi).length<=xs.length:=by
 unfold zdv;rw[List.length_take,List.length_drop];omega
def zwa(K:PySem.W.Frag):V->Option Int->Option Int->Hp->VK->Prop:=λx lo hi H Q=>∃a xs,x=.ref a/\SqT K H a xs /\
 ¬ (HT.sIx xs.length 0 lo=0/\HT.sIx xs.length xs.length hi=xs.length)/\∀p,H p=none->Q (.ref p) (upd H p (.tup (zdv xs lo hi)))
theorem zrz:SlR X (zwa X.K):=by
 intro pins s σ H x v vl vu lo hi sl Q I rx hs pl pu h;obtain⟨a,xs,rfl,hx,hw,q⟩:=h
 cases rx;obtain⟨its,r,ht,hz⟩:=I.tuple hx;have hlen:its.toArray.size=xs.length:=by rw[List.size_toArray];exact r.length.symm
 refine⟨"tuple",_,PyProof.Rows.slot_tuple_getitem.lookup,ht.typeIs,?_⟩;refine HT.getItem_tuple_cut ht hs pl pu (by rw[hlen];exact hw) ?_ (by rw[hlen];exact hz);rw[hlen];refine⟨.ref s.heap.objs.size,_,I.laid (t':=s.toks) (o:=.tup (zdv xs lo hi)) (λb ob q=>Heap.get?_push_of_some _ q) (Nat.le_refl _) ?_,rfl,q _ (I.hok.fresh (Nat.le_refl _))⟩;exact⟨Nat.le_trans (zb0 xs lo hi) hz,_,(r.drop (HT.sIx xs.length 0 lo)).take (HT.sIx xs.length xs.length hi-HT.sIx xs.length 0 lo),TupD.new _ _⟩
theorem Vals.nil_iff{xs:List V}{us:List Value}(r:Vals xs us):us = []↔xs = []:=by
 cases r with
 |nil=>simp
 |cons _ _=>simp
end
def ixN(n:Nat)(i:Int):Option Nat:=if 0<=i then (if i<n then some i.toNat else none) else if -(n:Int)<=i then some (i+n).toNat else none
def atI{α:Type}(xs:List α)(i:Int):Option α:=(ixN xs.length i).bind λj=>xs[j]?
theorem zjh{n:Nat}{i:Int}{j:Nat}(h:ixN n i=some j):seqIndex? i n=some j/\j<n/\-(n:Int)<=i/\i<n:=by
 unfold ixN at h
 by_cases h0:0<=i
 ·rw[if_pos h0]at h
  by_cases h1:i<n
  ·rw[if_pos h1]at h;have e:i.toNat=j:=Option.some.inj h;exact⟨by rw[seqIndex_of h0 h1,e],by omega,by omega,h1⟩
  ·rw[if_neg h1]at h;cases h
 ·rw[if_neg h0]at h
  by_cases h1 : -(n:Int)<=i
  ·rw[if_pos h1]at h;have e:(i+n).toNat=j:=Option.some.inj h;exact⟨by rw[seqIndex_neg (by omega) h1,e],by omega,h1,by omega⟩
  ·rw[if_neg h1]at h;cases h
theorem zfb{α:Type}{xs:List α}{i:Int}{v:α}(h:atI xs i=some v):∃j,seqIndex? i xs.length=some j/\xs[j]?=some v/\j<xs.length/\-(xs.length:Int)<=i/\i<xs.length:=by
 unfold atI at h
 cases e:ixN xs.length i with
 |none=>rw[e]at h;cases h
 |some j=>
  rw[e]at h;obtain⟨h1,h2,h3,h4⟩:=zjh e;exact⟨j,h1,h,h2,h3,h4⟩
theorem jy{α:Type}{xs:List α}{j:Nat}{v:α}(h:xs[j]?=some v):atI xs (j:Int)=some v:=by
 have hj:j<xs.length:=(List.getElem?_eq_some_iff.mp h).1;have e:ixN xs.length (j:Int)=some j:=by
  unfold ixN;rw[if_pos (by omega),if_pos (by omega)];simp
 unfold atI;rw[e];exact h
theorem zgn{α:Type}(xs:List α)(v:α):atI (xs ++ [v]) (-1)=some v:=by
 have hl:(xs ++ [v]).length=xs.length+1:=by simp
 have e:ixN (xs ++ [v]).length (-1)=some xs.length:=by
  unfold ixN;rw[hl,if_neg (by decide),if_pos (by omega)];congr 1;omega
 unfold atI;rw[e];show(xs ++ [v])[xs.length]?=some v;simp
def zfc(b:Expr):Prop:=∀o i,subscripted b false o i=operate [o,i] (getItem o i)
def IxR(X:Cx)(r:R2):Prop :=
 ∀(value slice:Expr) (pins:List (Addr×Obj)) (s:Shared) (σ:St) (H:Hp) (x y:V) (v u:Value) (Q:VK),Inv X pins σ H s->RelV x v->RelV y u->r x y H Q ->
  subscripted slice false v u=operate [v,u] (getItem v u)->wpAny (model X.prog X.w) X.A (subscriptTail value slice v u) (EP X pins σ Q) X.xe s
def MtR(X:Cx)(id:String)(r:V->List V->Hp->VK->Prop):Prop :=
 ∀(pins:List (Addr×Obj)) (s:Shared) (σ:St) (H:Hp) (x:V) (xs:List V) (v:Value) (us:List Value) (Q:VK),Inv X pins σ H s->RelV x v->Vals xs us->r x xs H Q ->
  wpAny (model X.prog X.w) X.A (call (.builtin id) (v::us)) (EP X pins σ Q) X.xe s
section
variable {X:Cx}{a b:Expr}{ta tb:TE}{pos:Pos}
theorem IxR.or{r r':R2}(h:IxR X r)(h':IxR X r'):IxR X (λx y H Q=>r x y H Q\/r' x y H Q):=by
 intro value slice pins s σ H x y v u Q I rx ry q hs;rcases q with q|q
 ·exact h value slice pins s σ H x y v u Q I rx ry q hs
 ·exact h' value slice pins s σ H x y v u Q I rx ry q hs
theorem zb1{r:R2}(hr:IxR X r)(ha:PE X a ta)(hb:PE X b tb)(hs:zfc b):PE X (.Subscript a b pos) (tOp r ta tb):=by
 intro pins s σ H Q I h;exact Subscript_ (zuf ha hb I h λv u s2 x y H2 I2 rx ry q=>hr a b pins s2 σ H2 x y v u Q I2 rx ry q (hs _ _))
def zur(K:PySem.W.Frag):R2:=λx y H Q=>∃p xs i v,x=.ref p/\y=.int i/\SqL K H p xs/\atI xs i=some v/\Q v H
def zus(K:PySem.W.Frag):R2:=λx y H Q=>∃p xs i v,x=.ref p/\y=.int i/\SqT K H p xs/\atI xs i=some v/\Q v H
def zut:R2:=λx y H Q=>∃z i c,x=.str z/\y=.int i/\z.length<=sizeLine/\atI z.cps.toList i=some c/\Q (.str ⟨#[c]⟩) H
theorem ix_list:IxR X (zur X.K):=by
 intro value slice pins s σ H x y v u Q I rx ry h hs;obtain⟨p,xs,i,z,rfl,rfl,hq,he,q⟩:=h
 cases rx;obtain⟨t,rfl⟩:=ry;obtain⟨its,r,pl,hz⟩:=I.list hq;obtain⟨j,h1,h2,h3,h4,h5⟩:=zfb he;obtain⟨w,ew,rw'⟩:=r.get h2;have hl:=r.length;have hn:=zak;have fin:EP X pins σ Q w s:=⟨z,H,I,rw',q⟩
 by_cases h0:0<=i
 ·have hj:i.toNat=j:=by
   rw[seqIndex_of h0 h5]at h1;exact Option.some.inj h1
  exact item_listR pl.isList h0 (by omega) (by rw[hj];simpa using ew) fin hs
 ·have hj:(i+(its.toArray.size:Int)).toNat=j:=by
   rw[seqIndex_neg (by omega) h4]at h1;rw[List.size_toArray,<-hl];exact Option.some.inj h1
  exact subscriptTail_builtinR (x:=w) pl.isList.typeIs slot_list_getitem.lookup
   (wpAny_getItem_list_neg (Q:=λr s'=>r=w/\EP X pins σ Q r s') pl.isList (by omega) (by rw[List.size_toArray] <;> omega) (by omega) (by rw[hj];simpa using ew) ⟨rfl,fin⟩) hs
theorem ix_tup:IxR X (zus X.K):=by
 intro value slice pins s σ H x y v u Q I rx ry h hs;obtain⟨p,xs,i,z,rfl,rfl,hq,he,q⟩:=h
 cases rx;obtain⟨t,rfl⟩:=ry;obtain⟨its,r,pl,hz⟩:=I.tuple hq;obtain⟨j,h1,h2,h3,h4,h5⟩:=zfb he;obtain⟨w,ew,rw'⟩:=r.get h2;have hl:=r.length;have hn:=zak;have fin:EP X pins σ Q w s:=⟨z,H,I,rw',q⟩
 exact subscriptTail_builtinR (x:=w) pl.typeIs slot_tuple_getitem.lookup
  (getItem_tuple (j:=j) (Q:=λr s'=>r=w/\EP X pins σ Q r s') pl (by omega) (by omega) (by rw[List.size_toArray,<-hl];exact h1) (by simpa using ew) ⟨rfl,fin⟩) hs
theorem zr0:IxR X zut:=by
 intro value slice pins s σ H x y v u Q I rx ry h hs;obtain⟨z,i,c,rfl,rfl,hz,he,q⟩:=h;obtain⟨t,rfl⟩:=rx;obtain⟨t',rfl⟩:=ry;obtain⟨j,h1,h2,h3,h4,h5⟩:=zfb he;have hl:z.cps.toList.length=z.length:=by simp[Str.length]
 rw[hl]at h1 h4 h5;have hn:=zak;exact tail_any (typeIs_str s z t) slot_str_getitem.lookup (getItem_str (c:=c) (by
  have e1:decide (i < -(2 ^ 63:Int))=false:=decide_eq_false (by omega);have e2:decide (i ≥ 2 ^ 63)=false:=decide_eq_false (by omega);rw[e1,e2,Bool.or_false]) (by rw[h1];simpa using h2) ⟨.str ⟨#[c]⟩,H,I.tok _,⟨_,rfl⟩,q⟩) hs
def rIx(K:PySem.W.Frag):R2:=λx y H Q=>zur K x y H Q\/zus K x y H Q\/zut x y H Q
theorem zr5:IxR X (rIx X.K):=ix_list.or (ix_tup.or zr0)
theorem zh5(its:List Value)(n j:Nat)(u:Value):Obj.mapSeq (·.setIfInBounds j u) { cls:=.type "list",data:=.seq its.toArray n } = { cls:=.type "list",data:=.seq (its.set j u).toArray n }:=by
 simp[Obj.mapSeq]
theorem Inv.lst{pins:List (Addr×Obj)}{σ:St}{H:Hp}{s:Shared}{p:Addr}{xs:List V}(I:Inv X pins σ H s)(h:H p=some (.lst xs)):
  ∃(its:List Value) (n:Nat),Vals xs its/\s.heap.get? p=some { cls:=.type "list",data:=.seq its.toArray n }/\xs.length<=sizeLine:=by
 obtain⟨z,its,n,r,e⟩:=I.hok p _ h;exact⟨its,n,r,e,z⟩
theorem Inv.lstUpd{pins:List (Addr×Obj)}{σ:St}{H:Hp}{s:Shared}{p:Addr}{xs ys:List V}{its its':List Value}{n n':Nat}{f:Obj->Obj}(I:Inv X pins σ H s)(h:H p=some (.lst xs))
  (ho:s.heap.get? p=some { cls:=.type "list",data:=.seq its.toArray n }) (hf:f { cls:=.type "list",data:=.seq its.toArray n } = { cls:=.type "list",data:=.seq its'.toArray n' }) (r:Vals ys its') (hz:ys.length<=sizeLine) (t:Nat) :
  Inv X pins σ (upd H p (.lst ys)) { s with heap:=s.heap.update p f,toks:=t }:=by
 have e:(s.heap.update p f).get? p=some { cls:=.type "list",data:=.seq its'.toArray n' }:=by
  rw[Heap.get?_update_self f ho (by rw[hf] <;> rfl),hf]
 refine I.write (x:=p) (e:=p) (by rw[h];trivial) (.inl rfl) (λb u hb q=>(Heap.get?_update_other _ _ (Ne.symm hb)).trans q) ⟨_,e⟩ ?_;exact⟨hz,its',n',r,e⟩
def zuu:V->V->V->Hp->(Hp->Prop)->Prop:=λo i v H Q=>∃p xs k j,o=.ref p/\i=.int k/\H p=some (.lst xs)/\ixN xs.length k=some j/\Q (upd H p (.lst (xs.set j v)))
theorem zgo:zud X zuu:=by
 intro pins s σ H o i v ov iv u Q I ro ri rv h;obtain⟨p,xs,k,j,rfl,rfl,hp,hj,q⟩:=h
 cases ro;obtain⟨t,rfl⟩:=ri;obtain⟨its,n,r,ho,hz⟩:=I.lst hp;obtain⟨h1,h2,h3,h4⟩:=zjh hj;have hl:=r.length;have hn:=zak;have I':Inv X pins σ (upd H p (.lst (xs.set j v))) { s with heap:=s.heap.update p (Obj.mapSeq (·.setIfInBounds j u)) } :=
  I.lstUpd hp ho (zh5 its n j u) (r.set rv j) (by rw[List.length_set];exact hz) s.toks
 by_cases h0:0<=k
 ·have hk:k.toNat=j:=by
   rw[seqIndex_of h0 h4]at h1;exact Option.some.inj h1
  exact PySem.W.ki_setAt ho h0 (by omega) (by rw[List.size_toArray,<-hl];exact h4) (by rw[hk];exact⟨_,I',q⟩)
 ·have hk:(k+(its.toArray.size:Int)).toNat=j:=by
   rw[seqIndex_neg (by omega) h3]at h1;rw[List.size_toArray,<-hl];exact Option.some.inj h1
  exact PySem.W.ki_setBack ho (by omega) (by rw[List.size_toArray,<-hl];exact h3) (by omega) (by rw[hk];exact⟨_,I',q⟩)
theorem zfd(lo hi:Option Int)(n:Nat):(sliceBounds lo hi none n).1=((HT.sIx n 0 lo:Nat):Int)/\(sliceBounds lo hi none n).2.1=((HT.sIx n n hi:Nat):Int)/\(sliceBounds lo hi none n).2.2=1:=by
 refine⟨?_,?_,rfl⟩
 ·cases lo with
  |none=>simp[sliceBounds,HT.sIx]
  |some i=>
   simp only[sliceBounds,HT.sIx,Option.getD_none,show(1:Int) > 0 by decide,if_true]
   by_cases h:i<0
   ·simp only[h,if_true] <;> omega
   ·simp only[h,if_false] <;> omega
 ·cases hi with
  |none=>simp[sliceBounds,HT.sIx]
  |some i=>
   simp only[sliceBounds,HT.sIx,Option.getD_none,show(1:Int) > 0 by decide,if_true]
   by_cases h:i<0
   ·simp only[h,if_true] <;> omega
   ·simp only[h,if_false] <;> omega
theorem zdw(its:List Value)(lo hi:Option Int):slicePick its.toArray lo hi none=((its.drop (HT.sIx its.length 0 lo)).take (HT.sIx its.length its.length hi-HT.sIx its.length 0 lo)).toArray:=by
 obtain⟨h1,h2,h3⟩:=zfd lo hi its.toArray.size;unfold slicePick;rw[h1,h2,h3];simp only[sliceRange_one,pick_run,List.size_toArray] <;> rfl
def zwb(K:PySem.W.Frag):V->Option Int->Option Int->Hp->VK->Prop:=λx lo hi H Q=>∃a xs,x=.ref a/\SqL K H a xs/\∀p,H p=none->Q (.ref p) (upd H p (.lst (zdv xs lo hi)))
theorem zji:SlR X (zwb X.K):=by
 intro pins s σ H x v vl vu lo hi sl Q I rx hs pl pu h;obtain⟨a,xs,rfl,hx,q⟩:=h
 cases rx;obtain⟨its,r,ht,hz⟩:=I.list hx;have hlen:=r.length;refine⟨"list",_,slot_list_getitem.lookup,ht.isList.typeIs,?_⟩;refine wpAny_getItem_list_slice ht.isList hs pl pu .none (by simp) ?_ (by rw[List.size_toArray] <;> omega);rw[zdw,<-hlen];refine⟨.ref s.heap.objs.size,_,I.laid (t':=s.toks) (o:=.lst (zdv xs lo hi)) (λb ob q=>Heap.get?_push_of_some _ q) (Nat.le_refl _) ?_,rfl,q _ (I.hok.fresh (Nat.le_refl _))⟩;exact⟨Nat.le_trans (zb0 xs lo hi) hz,_,0,(r.drop (HT.sIx xs.length 0 lo)).take (HT.sIx xs.length xs.length hi-HT.sIx xs.length 0 lo),Heap.get?_push_size _ rfl⟩
theorem zfe:v7 X (.builtin "len") (λxs H Q=>∃p ys,xs = [.ref p]/\(SqL X.K H p ys\/SqT X.K H p ys)/\Q (.int ys.length) H):=by
 intro pins s σ H xs us Q I r h;obtain⟨p,ys,rfl,hq,q⟩:=h;obtain⟨u,rfl,rx⟩:=zgj r
 cases rx;have hn:=zak;rcases hq with hq|hq
 ·obtain⟨its,r',pl,hz⟩:=I.list hq;have hlen:=r'.length;exact Calls.call_len_list pl.isList (by simp only[List.size_toArray] <;> omega) ⟨.int ys.length,H,I.tok _,⟨s.toks+1,by rw[List.size_toArray,hlen]⟩,q⟩
 ·obtain⟨its,r',pl,hz⟩:=I.tuple hq;have hlen:=r'.length;exact len_tuple pl (by simp only[List.size_toArray] <;> omega) ⟨.int ys.length,H,I.tok _,⟨s.toks+1,by rw[List.size_toArray,hlen]⟩,q⟩
theorem j8:v7 X (.type "tuple") (λxs H Q=>∃p ys,xs = [.ref p]/\((SqL X.K H p ys/\∀l,H l=none->Q (.ref l) (upd H l (.tup ys)))\/(SqT X.K H p ys/\Q (.ref p) H))):=by
 intro pins s σ H xs us Q I r h;obtain⟨p,ys,rfl,h⟩:=h;obtain⟨u,rfl,rx⟩:=zgj r
 cases rx;rcases h with⟨hq,q⟩ |⟨hq,q⟩
 ·obtain⟨its,r',pl,hz⟩:=I.list hq;have hlen:=r'.length;refine call_tuple_list pl.isList (λh' kp=>?_) (by simp only[List.size_toArray] <;> omega);have I1:Inv X pins σ H { s with heap:=h' }:=I.kept (t':=s.toks) kp
  have I2:Inv X pins σ (upd H h'.objs.size (.tup ys)) { s with heap:=h'.push { cls:=.type "tuple",data:=.seq its.toArray } } :=
   I1.laid (t':=s.toks) (λb o e=>Heap.get?_push_of_some _ e) (Nat.le_refl _) (show ObjOk X.prog X.w _ _ _ (.tup ys) from⟨hz,its,r',TupD.new _ _⟩)
  exact⟨.ref h'.objs.size,_,I2,rfl,q _ (I1.hok.fresh (Nat.le_refl _))⟩
 ·obtain⟨its,r',pl,hz⟩:=I.tuple hq;exact call_tuple_same pl ⟨.ref p,H,I,rfl,q⟩
def tyV(K:PySem.W.Frag)(T:String)(x:V)(H:Hp):Prop:=match x with
 |.str _=>T = "str"
 |.int _=>T = "int"
 |.ref p=>(T = "list" /\ ∃xs,SqL K H p xs)\/(T = "tuple" /\ ∃xs,SqT K H p xs) \/
   (T = "dict" /\((∃kvs,H p=some (.dK kvs))\/∃kvs,H p=some (.dT kvs)))\/(T = "set" /\ ∃S n,H p=some (.set S n))
 |_=>False
theorem zr7{pins:List (Addr×Obj)}{σ:St}{H:Hp}{s:Shared}{T:String}{x:V}{v:Value}(I:Inv X pins σ H s)(r:RelV x v)(ty:tyV X.K T x H):
  s.TypeIs v T/\∀a,v=.ref a->∃ob,s.heap.get? a=some ob/\ob.dict=none:=by
 cases x with
 |str z=>
  obtain⟨t,rfl⟩:=r
  cases (show T = "str" from ty);exact⟨typeIs_str s z t,λ_ e=>nomatch e⟩
 |int i=>
  obtain⟨t,rfl⟩:=r
  cases (show T = "int" from ty);exact⟨typeIs_int s i t,λ_ e=>nomatch e⟩
 |ref p=>
  cases r;rcases ty with⟨rfl,xs,hq⟩ |⟨rfl,xs,hq⟩ |⟨rfl,hk⟩ |⟨rfl,S,n,hk⟩
  ·obtain⟨its,_,pl,_⟩:=I.list hq;refine⟨pl.isList.typeIs,λa e=>?_⟩
   cases e;obtain⟨o,n,e,c,hd,_⟩:=pl;exact⟨o,e,hd⟩
  ·obtain⟨its,_,pl,_⟩:=I.tupleD hq;refine⟨pl.isTup.typeIs,λa e=>?_⟩
   cases e;obtain⟨o,e,_,_,hd⟩:=pl;exact⟨o,e,hd⟩
  ·have z:∃o,s.heap.get? p=some o/\o.ExactDict:=by
    rcases hk with⟨kvs,hk⟩ |⟨kvs,hk⟩
    ·obtain⟨_,_,_,_,o,_,_,e,ex,_⟩:=I.hok p _ hk;exact⟨o,e,ex⟩
    ·obtain⟨_,_,_,_,o,_,_,e,ex,_⟩:=I.hok p _ hk;exact⟨o,e,ex⟩
   obtain⟨o,e,ex⟩:=z;refine⟨⟨o,e,ex.1⟩,λa e2=>?_⟩
   cases e2;exact⟨o,e,ex.2.1⟩
  ·obtain⟨o,_,_,_,e,ex,_⟩:=I.hok p _ hk;refine⟨⟨o,e,ex.1⟩,λa e2=>?_⟩
   cases e2;exact⟨o,e,ex.2.1⟩
 |_=>exact False.elim ty
def tBM(K:PySem.W.Frag)(T:String)(r:V->List V->Hp->VK->Prop)(to:TE)(t:TA):TE:=λσ H Q=>to σ H λx H1=>tyV K T x H1/\t σ H1 λxs H2=>r x xs H2 Q
variable {o e:Expr}{es:List Expr}{to:TE}{t:TA}{name:Str}{apos cpos:Pos}{T id:String}{r:V->List V->Hp->VK->Prop}
theorem zgp(pa:PlainAttrs T)(slot:Slot T name id)(hty:typeOf (.builtin id)=pure (.type "method_descriptor"))(hm:MtR X id r)(ho:PE X o to)(ha:PA X (e::es) t)
  (hbase:attributeBase o name X.env (eval o X.env)=eval o X.env:=by rfl)
  (hfew:((backTo cpos (starEach (e::es) X.env)).all (λx=>!x.1) && (backToKw cpos (keywordEach [] X.env)).all (λx=>x.1.isSome)
   && decide ((e::es).length+([]:List Keyword).length+(if ([]:List Keyword).isEmpty then 0 else 1)<30))=true:=by rfl)
  (hline:(apos.endLine == cpos.line)=true:=by rfl) (hs:starEach (e::es) X.env=(false,eval e X.env)::starEach es X.env:=by rfl) (hplain:(backTo cpos (starEach es X.env)).any (·.1)=false:=by rfl) :
  PE X (.Call (.Attribute o name apos) (e::es) [] cpos) (tBM X.K T r to t):=by
 intro pins s σ H Q I h;refine wpAny_Call_method_late hbase hfew hline rfl (thn (ho pins s σ H _ I h) λv s1 ⟨x,H1,I1,r1,ty,q1⟩=>?_);obtain⟨h1,h2⟩:=zr7 I1 r1 ty;refine⟨T,id,pa,slot,hty,h1,h2,?_⟩;have hA:=ha cpos pins s1 σ H1 _ I1 q1;rw[hs]at hA ⊢;refine Calls.callWith_builtin (by show(false ||(backTo cpos (starEach es X.env)).any (·.1))=false;rw[hplain] <;> rfl) (Calls.evalArgs_plain ?_);exact thn hA λus s2 ⟨vs,H2,I2,r2,q2⟩=>hm pins s2 σ H2 x vs v us Q I2 r1 r2 q2
end
def MtM(X:Cx)(id:String)(r:V->List V->Hp->VK->Prop):Prop :=
 ∀(pins:List (Addr×Obj)) (s:Shared) (σ:St) (H:Hp) (x:V) (xs:List V) (v:Value) (us:List Value) (Q:VK),Inv X pins σ H s->RelV x v->Vals xs us->r x xs H Q ->
  wpAny (model X.prog X.w) X.A (call (.builtin id) (v::us)) (EP X pins σ Q) X.xe s
theorem Vals.one{x:V}{us:List Value}(h:Vals [x] us):∃u,us = [u]/\RelV x u:=by
 cases h with
 |cons r h=>cases h;exact⟨_,rfl,r⟩
theorem Vals.two{x y:V}{us:List Value}(h:Vals [x,y] us):∃u v,us = [u,v]/\RelV x u/\RelV y v:=by
 cases h with
 |cons r h=>obtain⟨v,rfl,q⟩:=Vals.one h;exact⟨_,v,rfl,r,q⟩
theorem Vals.zero:∀{us:List Value},Vals [] us->us = []
 |_,.nil=>rfl
theorem Vals.dropLast{xs:List V}{us:List Value}(h:Vals xs us):Vals xs.dropLast us.dropLast:=by
 induction h with
 |nil=>exact .nil
 |cons r t ih=>
  cases t with
  |nil=>exact .nil
  |cons q t'=>exact .cons r ih
theorem Vals.eraseIdx:∀{xs:List V}{us:List Value} (i:Nat),Vals xs us->Vals (xs.eraseIdx i) (us.eraseIdx i)
 |_,_,_,.nil=>.nil
 |_,_,0,.cons _ t=>t
 |_,_,i+1,.cons r t=>.cons r (Vals.eraseIdx i t)
theorem Vals.reverse{xs:List V}{us:List Value}(h:Vals xs us):Vals xs.reverse us.reverse:=by
 induction h with
 |nil=>exact .nil
 |cons r t ih=>rw[List.reverse_cons,List.reverse_cons];exact Vals.append ih (.cons r .nil)
theorem Vals.rep{xs:List V}{us:List Value}(h:Vals xs us):∀k:Nat,Vals (List.replicate k xs).flatten (List.replicate k us).flatten
 |0=>.nil
 |k+1=>by
  rw[List.replicate_succ,List.replicate_succ,List.flatten_cons,List.flatten_cons];exact Vals.append h (Vals.rep h k)
theorem zeh{α:Type}:∀(l:List α) (i:Nat),(l.eraseIdx i).length<=l.length
 |[],_=>Nat.le_refl _
 |_::_,0=>Nat.le_succ _
 |_::r,i+1=>Nat.succ_le_succ (zeh r i)
theorem zei(its:List Value):∀(k:Nat) (acc:List Value),
  List.foldl (λx1 x2=>x1++x2) acc.toArray (List.replicate k its.toArray)=(acc++(List.replicate k its).flatten).toArray
 |0,acc=>by simp
 |k+1,acc=>by
  have e:acc.toArray++its.toArray=(acc++its).toArray:=by simp
  have e2:(acc++its)++(List.replicate k its).flatten=acc++(List.replicate (k+1) its).flatten:=by
   rw[List.replicate_succ,List.flatten_cons,List.append_assoc]
  rw[<-e2,<-zei its k (acc++its),<-e,List.replicate_succ,List.foldl_cons]
section
variable {X:Cx}{pins:List (Addr×Obj)}{σ:St}{H:Hp}{s:Shared}{l b:Addr}{xs ys zs:List V}
theorem Inv.lset{its its':List Value}{n:Nat}{f:Array Value->Array Value}{t':Nat}(I:Inv X pins σ H s)(hH:H l=some (.lst xs))
  (e:s.heap.get? l=some { cls:=.type "list",data:=.seq its.toArray n }) (hf:f its.toArray=its'.toArray) (hv:Vals ys its') (hz:ys.length<=sizeLine) :
  Inv X pins σ (upd H l (.lst ys)) { s with heap:=s.heap.update l (Obj.mapSeq f),toks:=t' }:=by
 have q:=PySem.IsL.update e f;rw[hf]at q;refine I.write (x:=l) (e:=l) (by rw[hH];exact trivial) (.inl rfl) (λb' u hb hu=>(Heap.get?_update_other s.heap (Obj.mapSeq f) (Ne.symm hb)).trans hu) ⟨_,q⟩ ?_;exact⟨hz,its',_,hv,q⟩
theorem Inv.lnew{its:List Value}{t':Nat}(I:Inv X pins σ H s)(hv:Vals ys its)(hz:ys.length<=sizeLine):
  Inv X pins σ (upd H s.heap.objs.size (.lst ys)) { s with heap:=s.heap.push { cls:=.type "list",data:=.seq its.toArray },toks:=t' } :=
 I.laid (λ_ _ q=>Heap.get?_push_of_some _ q) (Nat.le_refl _) ⟨hz,its,0,hv,Heap.get?_push_size _ rfl⟩
theorem Inv.fresh(I:Inv X pins σ H s):H s.heap.objs.size=none:=I.hok.fresh (Nat.le_refl _)
theorem Inv.lstM(I:Inv X pins σ H s)(hH:H l=some (.lst xs)):xs.length<=sizeLine/\∃(its:List Value) (n:Nat),Vals xs its/\xs.length=its.length/\s.heap.get? l=some { cls:=.type "list",data:=.seq its.toArray n }:=by
 obtain⟨z,its,n,r,e⟩:=I.hok l _ hH;exact⟨z,its,n,r,r.length,e⟩
theorem zmq{n:Nat}(h:n<=sizeLine):Builtin.List.listTooLong n=false:=by
 unfold Builtin.List.listTooLong;exact decide_eq_false (by omega)
end
section
variable {X:Cx}
def zo9:V->List V->Hp->VK->Prop:=λx vs H Q=>∃l xs y,x=.ref l/\vs = [y]/\H l=some (.lst xs)/\xs.length<sizeLine/\Q .non (upd H l (.lst (xs ++ [y])))
theorem jz:MtM X "list.append" zo9:=by
 intro pins s σ H x vs v us Q I rx rv h;obtain⟨l,xs,y,rfl,rfl,hH,hz,q⟩:=h
 cases rx;obtain⟨u,rfl,ru⟩:=rv.one;obtain⟨z,its,n,r,hl,e⟩:=I.lstM hH;refine call_meets F.slot_list_append ⟨_,e,rfl⟩ F.entry_list_append (F.args_list_append_2 _ _) (PySem.list_append l its.toArray n u (by rw[List.size_toArray];omega)) ⟨e,?_⟩;refine⟨.non,_,I.lset (its':=its ++ [u]) hH e (by simp) (r.append (.cons ru .nil)) ?_,rfl,q⟩;rw[List.length_append,List.length_singleton];omega
def zr8:V->List V->Hp->VK->Prop:=λx vs H Q=>∃l xs i k y,x=.ref l/\vs = [.int i]/\H l=some (.lst xs)/\-(2 ^ 63)<=i/\i<2 ^ 63/\seqIndex? i xs.length=some k/\xs[k]?=some y/\Q y (upd H l (.lst (xs.eraseIdx k)))
theorem zmr:MtM X "list.pop" zr8:=by
 intro pins s σ H x vs v us Q I rx rv h;obtain⟨l,xs,i,k,y,rfl,rfl,hH,h1,h2,hk,hy,q⟩:=h
 cases rx;obtain⟨u,rfl,ru⟩:=rv.one;obtain⟨t,rfl⟩:=ru;obtain⟨z,its,n,r,hl,e⟩:=I.lstM hH;obtain⟨w,hw,rw'⟩:=r.get hy;refine call_meets F.slot_list_pop ⟨_,e,rfl⟩ F.entry_list_pop (F.args_list_pop_2 _ _)
  (MeetsSeq.list_pop_at l its.toArray n i t k w (fitsIndex_both h1 h2) (by rw[List.size_toArray,<-hl];exact hk) (by rw[<-Array.getElem?_toList];exact hw) (by rw[List.size_toArray];omega)) ⟨e,?_⟩
 refine⟨y,_,I.lset (its':=its.eraseIdx k) hH e ?_ (r.eraseIdx k) ?_,rw',q⟩
 ·show its.toArray.eraseIdxIfInBounds k=(its.eraseIdx k).toArray;rw[List.eraseIdxIfInBounds_toArray]
 ·have:=zeh xs k;omega
theorem zpa{α:Type}(xs:List α)(k:Nat):(List.replicate k xs).flatten.length=k * xs.length:=by
 induction k with
 |zero=>simp
 |succ k ih=>rw[List.replicate_succ,List.flatten_cons,List.length_append,ih,Nat.succ_mul,Nat.add_comm]
end
section
variable {prog:Program}{w:World}{A:Around}{E:Value->Shared->Prop}{s:Shared}
end
section
variable {X:Cx}
end
end L2
namespace Att
open PySem PySem.W PySem.Calls PyProof.Rows
theorem zb6{P:Params}{h:Heap}:∀(ns:List Int) (vs:List Value),WellAll P h vs (ns.map WData.int)->IntsAre vs ns:=by
 intro ns
 induction ns with
 |nil=>
  intro vs w;rw[List.map_nil]at w
  cases w;exact .nil
 |cons n ns ih=>
  intro vs w;rw[List.map_cons]at w
  cases w with
  |cons a b=>
   cases a;exact .cons _ _ (ih _ b)
theorem zkx{l:OpenLaw}{n:Nat}(hn:l.most=some n){P:Params}{h:Heap}{args:List WData}{vals:List Value}
  (hpre:l.row.toRowW.claim.pre args=true) (hwl:WellAll P h vals args) :
  ∃a vs ns,vals = [Value.ref a]/\args = [WData.list (ns.map WData.int)]/\h.get? a=some { cls:=.type "list",data:=.seq vs.toArray }/\IntsAre vs ns/\ns.length<=n:=by
 have hsh:WShape.hasAll [] args [.list .int]=true:=(pre_splitW hpre).1;have hc:l.pre.holds [] { args:=args }=true:=(pre_splitW hpre).2;obtain⟨d,r,rfl,h1,h2⟩:=hasAllW_cons hsh;obtain rfl:=hasAllW_nil h2;obtain⟨xs,rfl,h3⟩:=hasW_list h1;obtain⟨ns,rfl⟩:=items_int h3;have hlen:ns.length<=n:=by
  unfold OpenLaw.pre at hc;have h4:(WTm.not (.lt (.lit (.int (n:Int))) (.len (.arg 0)))).holds [] { args:=[.list (ns.map .int)] }=true:=by
   have h4:=(holds_andW hc).1;rw[hn]at h4;exact h4
  have h5:=condW_of h4 (w_not (w_lt w_lit (w_len_list (w_arg rfl))));rw[List.length_map]at h5;refine Nat.le_of_not_lt λq=>?_;have q':(n:Int)<((ns.length:Nat):Int):=by omega
  first
   |(rw[decide_eq_true q']at h5;exact absurd h5 (by decide))
   |(simp at h5;omega)
 cases hwl with
 |cons w1 w2=>
  cases w2
  cases w1 with
  |list ho hall=>exact⟨_,_,ns,rfl,rfl,ho,zb6 ns _ hall,hlen⟩
theorem zky(l:OpenLaw)(args:List WData):l.row.toRowW.claim.post args (.bool true) args=true :=
 postW_of (r:=l.row.toRowW) (X:=(true == true))
  (show WShape.has [] (.bool true) .bool=true by first|rfl|decide|simp[WShape.has,WShape.arms,WShape.armsAll])
  (show(WTm.eq .res (.lit (.bool true))).value [] { args:=args,res:=some (.bool true),after:=args }=some (.bool (true == true)) from w_eq_bool (w_res rfl) w_lit) rfl
theorem attach_call{l:OpenLaw}{n:Nat}{q:Program}{loose:List Str}{XP:(Str->Option Value)->Heap->Prop}{YP:World->Heap->Prop}{d:DefRec}
  (hn:l.most=some n) (hdf:d.params.defaults = [])
  (call:∀(w:World) (s₀ s₁:Shared) (mg mb:Str->Option Value) (fa:Addr) (o:Obj) (pm cd doc:Value) (a:Addr) (vs:List Value) (ns:List Int),
   Ground q loose [] XP w s₀ mg mb s₁.heap->YP w s₁.heap ->
   s₁.heap.get? fa=some o->o.data=.func (docDef d.name d.params d.body d.scope pm cd doc)->s₁.heap.CodeRec cd d.name->mg d.name=some (.ref fa) ->
   s₁.heap.get? a=some { cls:=.type "list",data:=.seq vs.toArray }->IntsAre vs ns->ns.length<=n->s₁.gens = #[] ->
   codeAny (model l.prog w) callerA (.call (.ref fa) ⟨[.ref a],[]⟩) (λr s'=>r=.ok (.ret (.bool true))/\OldK s₁.heap s'.heap/\s'.os=s₁.os/\AllBare s'.gens) s₁) :
  WalkO q loose XP YP l.row.toRowW d [] (λf vs=>PySem.call f vs):=by
 intro w s₀ s₁ mg mb G Y fa o pm cd doc dV kV ho hd hcd hD hmg hg args vals as hpre hlay hrd hwl hlo;obtain rfl:dV=.none:=Dflts.none hD hdf;obtain rfl:kV=.none:=Dflts.noKw hD;obtain⟨a,vs,ns,rfl,rfl,hobj,hints,hlen⟩:=zkx hn hpre hwl;refine enter_call (codeAny_mono (call w s₀ s₁ mg mb fa o pm cd doc a vs ns G Y ho (fd_plain hd) hcd hmg hobj hints hlen hg) λr s' hq=>?_);obtain⟨rfl,h2,h3,h4⟩:=hq;exact⟨.inl ⟨.bool true,.bool true,[],rfl,λ_=>rfl,.bool true,zky l _,λ_=>⟨List.Pairwise.nil,λ_ hm=>(nomatch hm)⟩⟩,h2,h3,h4⟩
section
variable {prog:Program}{w:World}{A:Around}{E:Value->Shared->Prop}{s:Shared}{K:Frag}
end
end Att
namespace L2
open PySem PySem.Spec PyProof.Rows
theorem zej:∀{vs:List Value}{ns:List Int},IntsAre vs ns->Vals (ns.map V.int) vs
 |_,_,.nil=>.nil
 |_,_,.cons n t h=>.cons ⟨t,rfl⟩ (zej h)
def zf(s:Stmt):Arguments:=match s with
 |.FunctionDef _ a _ _ _ _ _ _ _ _=>a
 |_=>{ posonlyargs:=[],args:=[],vararg:=none,kwonlyargs:=[],kw_defaults:=[],kwarg:=none,defaults:=[] }
def zd(s:Stmt):List Stmt:=match s with
 |.FunctionDef _ _ b _ _ _ _ _ _ _=>b
 |_=>[]
def za(s:Stmt):Scope:=match s with
 |.FunctionDef _ _ _ _ _ _ sc _ _ _=>sc
 |_=>{ kind:=.function,names:=[],isGenerator:=false,isCoroutine:=false }
abbrev CX0:CXT:=λ_ _ _ _ _ _=>False
abbrev E0:XK:=λ_ _ _=>False
theorem zqy{X:Cx}:zh2 CX0 X E0:=λ_ _ _ _ _ _ _ h=>h.elim
structure Fun(K:PySem.W.Frag)(x qual:Str)(st:Stmt)(f:Addr)(fd:FuncData):Prop where
 ex:∃(oc:Value) (od:Option Addr) (kV doc pm:Value) (an:Option Addr) (cdv ct:Value) (osl:Array (Option Value)),
  fd=PySem.W.fnOf x qual (zf st) (zd st) (za st) .none kV doc pm an cdv ct/\K.lookup f=some ⟨oc,od,.func fd,osl⟩/\PySem.W.codeIn K cdv qual=true
 kp:PySem.W.keepIn K (.ref f)=true
section
variable {P:Program}{w:World}{K:PySem.W.Frag}{mg:Str->Option Value}{base:Heap}
theorem Fun.ok{x qual:Str}{st:Stmt}{f:Addr}{fd:FuncData}{N ps:List Str}{k:Nat}{sp:Sp}(F:Fun K x qual st f fd)(S:z9 N ps (za st))(len:∀vs H Q E,sp vs H Q E->vs.length=ps.length)
  (hbody:∀(cdv:Value) (A:Around) (outer:List Env) (s:Shared) (H:Hp) (vs:List V) (Q:VK) (E:XK),Room k (A.deeper (envOfC qual (za st) s.heap.objs.size f cdv))->sp vs H Q E ->
   ∃t,PSs (zgk CX0 P w K mg base N qual (za st) f cdv A outer s H E).nox (zd st) t/\t { nx:=λ_ H'=>Q .non H',rt:=Q } (j7 N vs) H):FnOk P w K mg base CX0 (k+1) f fd ps sp:=by
 obtain⟨oc,od,kV,doc,pm,an,cdv,ct,osl,rfl,lk,hcd⟩:=F.ex;refine zqx lk hcd S len λA outer s H vs Q E hr hsp=>?_;obtain⟨t,h,q⟩:=hbody cdv A outer s H vs Q E hr hsp;exact⟨t,h.nox,q⟩
theorem Fun.binds{x qual:Str}{st:Stmt}{f:Addr}{fd:FuncData}{ps:List Str}(F:Fun K x qual st f fd)
  (h:∀(kV doc pm:Value) (an:Option Addr) (cdv ct:Value) (us:List Value),us.length=ps.length->bindArgs (PySem.W.fnOf x qual (zf st) (zd st) (za st) .none kV doc pm an cdv ct) ⟨us,[]⟩=pure (ps.zip us)):Binds K fd ps []:=by
 obtain⟨oc,od,kV,doc,pm,an,cdv,ct,osl,rfl,lk,hcd⟩:=F.ex;exact .all (h kV doc pm an cdv ct)
theorem yp{x qual:Str}{st:Stmt}{f:Addr}{oc:Value}{od an:Option Addr}{osl:Array (Option Value)}{kV doc pm cdv ct:Value}(l:K.lookup f=some ⟨oc,od,.func (PySem.W.fnOf x qual (zf st) (zd st) (za st) .none kV doc pm an cdv ct),osl⟩)
  (c:PySem.W.codeIn K cdv qual=true) (k:PySem.W.keepIn K (.ref f)=true):Fun K x qual st f (PySem.W.fnOf x qual (zf st) (zd st) (za st) .none kV doc pm an cdv ct):=⟨⟨oc,od,kV,doc,pm,an,cdv,ct,osl,rfl,l,c⟩,k⟩
end
section
variable {X:Cx}
theorem pv(i:Nat){x:Str}{pos:Pos}(hN:X.N[i]?=some x:=by rfl)(hv:Vis X.env.scope x:=by first|exact Or.inl rfl|exact Or.inr (Or.inl rfl)|exact Or.inr (Or.inr rfl))(hd:(x ==("__debug__" : Str))=false:=by decide)
  (hcd:(x ==("__classdict__" : Str))=false:=by decide):PE X (.Name x pos) (zt7 i):=wc hN hv hd hcd
end
theorem zwc{A B:Prop}(h:B):if false=true then A else B:=by
 rw[if_neg Bool.false_ne_true];exact h
theorem zuv{c A B:Prop}[Decidable c](h1:c->A)(h2:¬ c->B):if c then A else B:=by
 by_cases h:c
 ·rw[if_pos h];exact h1 h
 ·rw[if_neg h];exact h2 h
def Same(H H':Hp):Prop:=∀b o,H b=some o->H' b=some o
theorem Same.refl(H:Hp):Same H H:=λ_ _ h=>h
theorem Same.trans{H H1 H2:Hp}(a:Same H H1)(b:Same H1 H2):Same H H2:=λc o h=>b c o (a c o h)
theorem Same.free{H H':Hp}(e:Same H H'){l:Addr}(h:H' l=Option.none):H l=Option.none:=by
 cases q:H l with
 |none=>rfl
 |some o=>
  rw[e l o q]at h
  cases h
theorem Same.seq{K:PySem.W.Frag}{H H':Hp}{a:Addr}{xs:List V}(e:Same H H')(h:SqL K H a xs):SqL K H' a xs:=by
 rcases h with(h |⟨o,h⟩)|h
 ·exact .inl (.inl (e _ _ h))
 ·exact .inl (.inr ⟨o,e _ _ h⟩)
 ·exact .inr h
theorem gg{P:Prop}(h:∀G:Prop,(P->G)->G):P:=h P id
theorem zff{prog:Program}{w:World}{A:Around}{R:Result->Shared->Prop}{s:Shared}{elt target iter:Expr}{ifs:List Expr}{scope:Scope}{pos:Pos}{it acc:Value}{env:Env}(I:Nat->Shared->Prop)
  (turn:∀n s,I n s->wpAny (model prog w) A (pyNext it) (λr s1=>match r with
   |none=>R (.ok .next) s1
   |some v=>wpAny (model prog w) A (letOwnedTupleGo target it v) (λ_ s1'=>wpAny (model prog w) A (assign target env v) (λ_ s2=>
     wpAny (model prog w) A (forIn ifs true λc r=>if r=true then do let ok <-isTrue c env (eval c env);pure (ForInStep.yield ok) else pure (ForInStep.yield r)) (λok s3=>
      if ok=true then wpAny (model prog w) A (eval elt env) (λx s4=>
       wpAny (model prog w) A (call (.builtin "list.append") [acc,x]) (λ_ s5=>∃m,m<n/\I m s5) (λ_ _=>False) s4) (λ_ _=>False) s3
      else ∃m,m<n/\I m s3) (λ_ _=>False) s2) (λ_ _=>False) s1') (λ_ _=>False) s1) (λ_ _=>False) s)
  (n:Nat) (h:I n s) :
  codeAny (model prog w) A (.compLoop (.ListComp elt [⟨target,iter,ifs,0⟩] scope pos) 0 it acc env) R s:=by
 refine codeAny_loop rfl I (λn s hI=>?_) n h;show wpAny _ A ((compTurn (.ListComp elt [⟨target,iter,ifs,0⟩] scope pos) 0 it acc env).onRaise (λx=>do noteFrame x env;theTreesLotGoes x)) _ _ s;refine wpAny_noted ?_;rw[compTurn_list];refine wpAny_bind (wpAny_standAt (wpAny_bind (wpAny_mono (turn n s hI) (λr s₁ h₁=>?_) λ_ _ h'=>h'.elim)))
 cases r with
 |none=>exact wpAny_pure h₁
 |some v=>
  refine wpAny_bind (wpAny_mono h₁ (λ_ s₁' h₁'=>?_) λ_ _ h'=>h'.elim);refine wpAny_bind (wpAny_mono h₁' (λ_ s₂ h₂=>wpAny_bind (wpAny_mono h₂ (λok s₃ h₃=>?_) λ_ _ h'=>h'.elim)) λ_ _ h'=>h'.elim)
  cases ok with
  |false=>exact wpAny_pure ⟨rfl,h₃⟩
  |true=>
   exact wpAny_bind (wpAny_bind (wpAny_mono h₃ (λx s₄ h₄=>wpAny_bind (wpAny_mono h₄ (λ_ s₅ h₅=>wpAny_pure (wpAny_pure ⟨rfl,h₅⟩)) λ_ _ h'=>h'.elim)) λ_ _ h'=>h'.elim))
inductive Capt(X:Cx)(scope:Scope)(cl:List (Str×Addr)):List Str->List Nat->Prop
 |nil:Capt X scope cl [] []
 |cons {x:Str}{j:Nat}{xs:List Str}{js:List Nat} (h1:X.N[j]?=some x) (h2:X.env.kindOf x=some .cell\/X.env.kindOf x=some .free) (h3:cl.lookup x=X.env.cells.lookup x)
  (h4:(relabel scope X.env).names.lookup x=some .cell\/(relabel scope X.env).names.lookup x=some .free) (t:Capt X scope cl xs js):Capt X scope cl (x::xs) (j::js)
theorem Capt.get{X:Cx}{scope:Scope}{cl:List (Str×Addr)}:∀{xs:List Str}{js:List Nat},Capt X scope cl xs js->xs.length=js.length/\∀(i:Nat) (x:Str) (j:Nat),xs[i]?=some x->js[i]?=some j->X.N[j]?=some x/\(X.env.kindOf x=some .cell\/X.env.kindOf x=some .free)/\cl.lookup x=X.env.cells.lookup x /\
  ((relabel scope X.env).names.lookup x=some .cell\/(relabel scope X.env).names.lookup x=some .free)
 |_,_,.nil=>⟨rfl,λi x j h=>by simp at h⟩
 |_,_,.cons h1 h2 h3 h4 t=>⟨by simp[t.get.1],λi x j hx hj=>by
  cases i with
  |zero=>simp at hx hj;subst hx hj;exact⟨h1,h2,h3,h4⟩
  |succ i=>exact t.get.2 i x j (by simpa using hx) (by simpa using hj)⟩
inductive SubC(X:Cx):List (Str×Addr)->Prop
 |nil:SubC X []
 |cons {x:Str}{c:Addr}{cl:List (Str×Addr)} (h:X.env.cells.lookup x=some c) (t:SubC X cl):SubC X ((x,c)::cl)
theorem SubC.of{X:Cx}:∀{cl:List (Str×Addr)},SubC X cl->∀x c,cl.lookup x=some c->X.env.cells.lookup x=some c
 |_,.nil,x,c,h=>by simp at h
 |_,.cons (x:=y) (c:=d) h0 t,x,c,h=>by
  rw[List.lookup_cons]at h
  cases e:x == y with
  |true=>
   rw[e]at h;have:x=y:=by simpa using e
   subst this;rw[h0];simpa using h
  |false=>rw[e]at h;exact t.of x c (by simpa using h)
def yk(X:Cx)(N':List Str)(scope:Scope)(cl:List (Str×Addr))(C:Addr)(fp:List Addr)(s2:Shared)(H2:Hp):Cx where
 prog:=X.prog
 w:=X.w
 K:=X.K
 mg:=X.mg
 base:=X.base
 A:=X.A
 N:=N'
 s₀:=s2
 H₀:=H2
 env:=compEnvC scope cl C X.env
 outer:=X.stack
 stack:=X.stack
 ex:=fp
 fn:=λ_=>false
 calm:=true
 pn:=[]
 xe:=λ_ _=>False
def xc(k:Nat)(js:List Nat)(σ:St):St:=List.replicate k none++js.map λj=>(σ[j]?).join
def PTs(X:Cx)(ifs:List Expr)(t:TT):Prop :=
 ∀(pins:List (Addr×Obj)) (s:Shared) (σ:St) (H:Hp) (Q:Bool->Hp->Prop),Inv X pins σ H s->t σ H Q ->
  wpAny (model X.prog X.w) X.A (forIn ifs true λc r=>if r=true then do let ok <-isTrue c X.env (eval c X.env);pure (ForInStep.yield ok) else pure (ForInStep.yield r)) (TP X pins σ Q) X.xe s
def zuw:TT:=λ_ H Q=>Q true H
theorem zpb{X:Cx}:PTs X [] zuw:=λ_ _ _ H _ I h=>wpAny_tests_nil ⟨H,I,h⟩
theorem zpc{X:Cx}{c:Expr}{t:TT}(hc:PT X c t):PTs X [c] t:=λpins s σ H Q I h=>wpAny_tests_one (hc pins s σ H Q I h)
def zfg(J:It)(D:Addr)(g:TG)(tt:TT)(te:TE)(σ0:St)(H1:Hp)(Q:VK):Prop :=
 ∃W:Nat->Nat->St->Hp->Prop,(∃m,W 0 m σ0 (upd H1 D (.lst [])))/\∀i m σ H,W i m σ H ->
  (J.stop i H/\Q (.ref D) H)\/(J.go i H/\∀x H',J.yld i H x H'->g x σ H' λσ2 H2=>tt σ2 H2 λb H3=>
   if b=true then te σ2 H3 λy H4=>∃ys,H4 D=some (.lst ys)/\ys.length<sizeLine/\∃m',m' < m/\W (i+1) m' σ2 (upd H4 D (.lst (ys ++ [y])))
   else ∃m',m' < m/\W (i+1) m' σ2 H3)
def tLC(k:Nat)(js:List Nat)(wi:TI)(g:TG)(tt:TT)(te:TE):TE:=λσ H Q=>wi σ H λJ H1=>∀D,H1 D=none->zfg J D g tt te (xc k js σ) H1 Q
section
variable {X:Cx}
theorem zqz{N':List Str}{scope:Scope}{cl:List (Str×Addr)}{fp:List Addr}{pins:List (Addr×Obj)}{σ:St}{H2:Hp}{s2:Shared}{C:Addr}(I:Inv X pins σ H2 s2)(hc:X.calm=true)(hkind:scope.kind=.function)(hC:s2.heap.objs.size<=C)
  (hsub:SubC X cl) (hhas:(relabel scope X.env).names.all (λp=>(p.2 != .cell && p.2 != .free) ||(cl.lookup p.1).isSome)=true)
  (hf:∀b∈fp,FpOk X pins H2 b) (ho:∀b∈fp,∃o,s2.heap.get? b=some o/\∀v,o.data ≠ .cell v):(yk X N' scope cl C fp s2 H2).Ok where
 mod:=I.ok.mod
 kind:=hkind
 glob:=I.ok.glob
 blt:=I.ok.blt
 above:=hC
 inj:=λx y c h1 h2=>I.ok.inj x y c (hsub.of x c h1) (hsub.of y c h2)
 has:=λx hx=>by
  have hx:(relabel scope X.env).names.lookup x=some .cell\/(relabel scope X.env).names.lookup x=some .free:=hx;have key:∀k,(relabel scope X.env).names.lookup x=some k->(k=.cell\/k=.free)->∃c,cl.lookup x=some c:=λk hk hkk=>by
   have hm:=PySem.mem_of_lookup hk;have:=List.all_eq_true.mp hhas _ hm;rcases hkk with rfl|rfl <;> exact Option.isSome_iff_exists.mp (by simpa using this)
  rcases hx with hx|hx
  ·exact key _ hx (.inl rfl)
  ·exact key _ hx (.inr rfl)
 cab:=λx c h=>by cases h
 hd:=λ_=>I.ok.hd hc
 frames:=I.ok.frames
 stk:=.inl rfl
 exf:=λb hb=>by
  obtain⟨o,e,_⟩:=ho b hb;obtain⟨f0,f1,f2,f3,f4,f5⟩:=hf b hb;exact⟨Nat.ne_of_lt (Nat.lt_of_lt_of_le (Heap.lt_size e) hC),λx c h=>f4 x c (hsub.of x c h)⟩
 bs:=I.bs
 bsz:=Nat.le_trans I.ok.bsz I.sz
 noex:=λb o e hb=>by
  obtain⟨f0,f1,f2,f3,f4,f5⟩:=hf b hb;rcases f3 with z|z
  ·exact I.ok.noex b o e z
  ·exact absurd (Nat.lt_of_lt_of_le (Heap.lt_size e) (Nat.le_trans I.ok.bsz z)) (Nat.lt_irrefl _)
 exfs:=λb hb z=>by
  obtain⟨f0,f1,f2,f3,f4,f5⟩:=hf b hb;exact(List.mem_cons.mp (I.stkSub b z)).elim f1 f2
 funs:=I.stack
 frf:=I.stkFree
theorem zgq{N' capt:List Str}{k:Nat}{js:List Nat}{scope:Scope}{cl:List (Str×Addr)}{fp:List Addr}{pins:List (Addr×Obj)}{σ:St}{H2:Hp}{s2:Shared}{D C:Addr}{h4:Heap}{t4:Nat}{m:Str->Option Value}(I:Inv X pins σ H2 s2)(ok:(yk X N' scope cl C fp s2 H2).Ok)
  (hD:s2.heap.objs.size<=D) (hC:s2.heap.objs.size<=C) (hDC:D≠C) (keep:∀b o,s2.heap.get? b=some o->h4.get? b=some o) (hns:h4.Ns C m)
  (hl:h4.get? D=some { cls:=.type "list",data:=.seq #[] 0 })
  (hsub:SubC X cl) (hcap:Capt X scope cl capt js) (hN:N'=N'.take k++capt) (hk:k<=N'.length) :
  Inv (yk X N' scope cl C fp s2 H2) [] (xc k js σ) (upd H2 D (.lst [])) { s2 with heap:=h4,toks:=t4 }:=by
 have below:∀b o,s2.heap.get? b=some o->b≠D/\b≠C:=λb o e=>⟨Nat.ne_of_lt (Nat.lt_of_lt_of_le (Heap.lt_size e) hD),Nat.ne_of_lt (Nat.lt_of_lt_of_le (Heap.lt_size e) hC)⟩
 have hlen:N'.length=k+capt.length:=by
  have:=congrArg List.length hN;rw[List.length_append,List.length_take]at this;omega
 refine⟨ok,rfl,I.bare,Un.laid keep hD (I.hok.fresh hD),⟨m,hns,λi x v h1 h2 h3=>?_⟩,λx c h=>?_,?_,λx c h=>?_,λp hp=>absurd (show p∈([]:List (Addr×Obj)) from hp) (by simp),?_,?_⟩
 ·have h1:N'[i]?=some x:=h1;unfold xc at h2
  by_cases hi:i<k
  ·rw[List.getElem?_append_left (by simpa using hi),List.getElem?_replicate]at h2;rw[if_pos hi]at h2
   cases h2
  ·rw[List.getElem?_append_right (by simpa using hi),List.length_replicate,List.getElem?_map]at h2
   have hx:capt[i-k]?=some x:=by
    rw[hN,List.getElem?_append_right (by rw[List.length_take];omega),List.length_take]at h1;rw[show min k N'.length=k by omega]at h1;exact h1
   cases ej:js[i-k]? with
   |none=>rw[ej]at h2;cases h2
   |some j=>
    rw[ej]at h2;have h2':(σ[j]?).join=some v:=Option.some.inj h2;obtain⟨q1,q2,q3,q4⟩:=hcap.get.2 _ _ _ hx ej;have hv:σ[j]?=some (some v):=by
     cases e:σ[j]? with
     |none=>rw[e]at h2';cases h2'
     |some o=>rw[e]at h2';cases o with
      |none=>cases h2'
      |some v'=>simpa using h2'
    obtain⟨m0,hn0,hl0⟩:=I.loc;obtain⟨u,r,l⟩:=hl0 j x v q1 hv (by rcases q2 with z|z;exact .inr (.inl z);exact .inr (.inr z));refine⟨u,r,?_⟩;rcases l with⟨z,_⟩ |⟨_,c,e,o,z1,z2⟩
    ·rcases q2 with q|q <;> · rw[q]at z;cases z
    ·exact .inr ⟨q4,c,q3.trans e,o,keep c o z1,z2⟩
 ·obtain⟨v,o,z1,z2⟩:=I.cell x c (hsub.of x c h);exact⟨v,o,keep c o z1,z2⟩
 ·show upd H2 D (.lst []) C=none;rw[zn (Ne.symm hDC)];exact I.hok.fresh hC
 ·obtain⟨v,o,z1,z2⟩:=I.cell x c (hsub.of x c h);show upd H2 D (.lst []) c=none;rw[zn (below c o z1).1];exact I.freeC x c (hsub.of x c h)
 ·exact I.hok.laid keep hD ⟨Nat.zero_le _,[],0,.nil,hl⟩
 ·show(xc k js σ).length=N'.length;unfold xc;rw[List.length_append,List.length_replicate,List.length_map,hlen,hcap.get.1]
structure zdx(X:Cx)(scope:Scope)(cl:List (Str×Addr))(N' capt:List Str)(k:Nat)(js:List Nat):Prop where
 clos:closureFor scope X.env=pure cl
 cell:∀y∈scope.names,y.2 ≠ .cell
 kind:scope.kind=.function
 names:∀y∈scope.names,y.2=.local->scope.names.lookup y.1=some .local
 sub:SubC X cl
 has:(relabel scope X.env).names.all (λp=>(p.2 != .cell && p.2 != .free) ||(cl.lookup p.1).isSome)=true
 cap:Capt X scope cl capt js
 hN:N'=N'.take k++capt
 hk:k<=N'.length
def LcEnd(X:Cx)(pins:List (Addr×Obj))(σ:St)(Q:VK)(acc:Value)(C:Addr)(r:Result)(s':Shared):Prop :=
 ∃(f:Flow) (D:Addr) (H':Hp) (m:Str->Option Value),r=.ok f/\acc=.ref D/\Inv X pins σ H' s'/\Q (.ref D) H'/\s'.heap.Ns C m/\H' C=none/\C≠X.env.locals/\X.s₀.heap.objs.size<=C/\(∀x c,X.env.cells.lookup x=some c->c≠C)/\∀p∈X.pn++pins,p.1≠C
theorem LcEnd.let_go{pins:List (Addr×Obj)}{σ':St}{H':Hp}{C:Addr}{s'':Shared}{h':Heap}(I:Inv X pins σ' H' s'')(hn:H' C=none)(h1:C≠X.env.locals)(h2:X.s₀.heap.objs.size<=C)(h3:∀x c,X.env.cells.lookup x=some c->c≠C)(h4:∀p∈X.pn++pins,p.1≠C)
  (hs:Heap.SameBut C s''.heap h'):Inv X pins σ' H' { s'' with heap:=h' } :=
 I.turned (t':=s''.toks) (λb o hb e=>(hs.2 b hb).trans e) hn h1 (.inr h2) h3 h4
theorem zgr{elt tg iter:Expr}{ifs:List Expr}{scope:Scope}{pos:Pos}{cl:List (Str×Addr)}{N' capt:List Str}{k:Nat}{js:List Nat}{g:TG}{tt:TT}{te:TE}{J:It}{fp:List Addr}{tn:Nat->Heap->Prop}{it:Addr}
  {pins:List (Addr×Obj)}{σ:St}{H2:Hp}{s2:Shared}{Q:VK}{E:Value->Shared->Prop} (hc:X.calm=true) (L:zdx X scope cl N' capt k js)
  (hg:∀C fp s2 H2,PG (yk X N' scope cl C fp s2 H2) tg g) (ht:∀C fp s2 H2,PTs (yk X N' scope cl C fp s2 H2) ifs tt) (he:∀C fp s2 H2,PE (yk X N' scope cl C fp s2 H2) elt te)
  (I2:Inv X pins σ H2 s2) (T:zfa X.prog X.w X.K tg J fp it tn) (st2:tn 0 s2.heap) (f2:∀b∈fp,FpOk X pins H2 b) (q:∀D,H2 D=none->zfg J D g tt te (xc k js σ) H2 Q) :
  wpAny (model X.prog X.w) X.A (newList []) (λacc s3=>wpAny (model X.prog X.w) X.A (newFunctionEnv scope X.env.globals cl [] X.env.qual none .none (some X.env)) (λcenv s4=>
   codeAny (model X.prog X.w) X.A (.compStart (.ListComp elt [⟨tg,iter,ifs,0⟩] scope pos) 0 (.ref it) acc { cenv with scope:=relabel scope X.env }) (LcEnd X pins σ Q acc cenv.locals) s4) E s3) E s2:=by
 refine wpAny_newObj_type (wpAny_newFunctionEnv L.cell (by intro y hy;simp at hy) (λh₁ hns₁ hsb₁=>?_) L.kind);dsimp only at hns₁ hsb₁ ⊢;generalize hH2:s2.heap.push { cls:=.type "list",dict:=none,data:=.seq ([]:List Value).toArray }=G at hns₁ hsb₁ ⊢;have hC:G.objs.size=s2.heap.objs.size+1:=by rw[<-hH2,Heap.size_push]
 have hDC:s2.heap.objs.size≠G.objs.size:=by rw[hC];exact Nat.ne_of_lt (Nat.lt_succ_self _)
 have hCle:s2.heap.objs.size<=G.objs.size:=by rw[hC];exact Nat.le_succ _
 have below:∀b,b<s2.heap.objs.size->b≠G.objs.size:=λb hb=>by rw[hC];exact Nat.ne_of_lt (Nat.lt_succ_of_lt hb)
 have keep:∀b o,s2.heap.get? b=some o->h₁.get? b=some o:=λb o e=>hsb₁.extBut b o (below b (Heap.lt_size e)) (Heap.get?_push_of_some _ (hH2 ▸ Heap.get?_push_of_some _ e));have hl:h₁.get? s2.heap.objs.size=some { cls:=.type "list",data:=.seq #[] 0 }:=hsb₁.extBut _ _ hDC (Heap.get?_push_of_some _ (hH2 ▸ Heap.get?_push_size _ rfl));have ho2:=T.obj _ _ st2;have ok:(yk X N' scope cl G.objs.size fp s2 H2).Ok:=zqz I2 hc L.kind hCle L.sub L.has f2 ho2;generalize hD:s2.heap.objs.size=D at hl hDC ⊢;generalize hCC:G.objs.size=C at hns₁ hsb₁ hDC hC hCle below ok ⊢;have hDle:s2.heap.objs.size<=D:=by rw[hD];exact Nat.le_refl _
 have I4:Inv (yk X N' scope cl C fp s2 H2) [] (xc k js σ) (upd H2 D (.lst [])) { s2 with heap:=h₁,toks:=s2.toks+([]:List (Str×Value)).length } :=
  zgq I2 ok hDle hCle hDC keep hns₁ hl L.sub L.cap L.hN L.hk
 obtain⟨W,⟨m0,w0⟩,turn⟩:=q D (I2.hok.fresh hDle);have tn0:tn 0 h₁:=T.keep _ _ _ st2 λb _ o e=>keep b o e;have fr0:∀b∈fp,upd H2 D (.lst []) b=none:=λb hb=>by
  obtain⟨o,e,_⟩:=ho2 b hb;rw[zn (Nat.ne_of_lt (Nat.lt_of_lt_of_le (Heap.lt_size e) hDle))];exact(f2 b hb).1
 have stat:∀{H':Hp},(∀b∈fp,H' b=none)->∀b∈fp,FpOk (yk X N' scope cl C fp s2 H2) [] H' b:=λhn b hb=>by
  refine⟨hn b hb,(ok.exf b hb).1,ok.exfs b hb,.inl hb,(ok.exf b hb).2,λp hp=>absurd (show p∈([]:List (Addr×Obj)) from hp) (by simp)⟩
 have loop:∀s₃:Shared,s₃ = { s2 with heap:=h₁,toks:=s2.toks+([]:List (Str×Value)).length } ->
   codeAny (model X.prog X.w) X.A (.compLoop (.ListComp elt [⟨tg,iter,ifs,0⟩] scope pos) 0 (.ref it) (.ref D) (compEnvC scope cl C X.env)) (LcEnd X pins σ Q (.ref D) C) s₃:=by
  rintro s₃ rfl;refine zff (λn s'=>∃i σ' H',Inv (yk X N' scope cl C fp s2 H2) [] σ' H' s'/\tn i s'.heap/\(∀b∈fp,H' b=none)/\W i n σ' H') ?_ m0 ⟨0,_,_,I4,tn0,fr0,w0⟩;intro n s3 zz;refine gg λG zk=>?_;obtain⟨i,σ3,H3,I3,st3,fr3,w3⟩:=zz;refine zk ?_;clear zk;rcases turn i n σ3 H3 w3 with⟨stop,qn⟩ |⟨go,step⟩
  ·refine thn (T.done (yk X N' scope cl C fp s2 H2) rfl rfl rfl rfl i [] s3 σ3 H3 (λ_ _=>False) I3 (stat fr3) st3 stop) λr s4 ⟨hr,J4⟩=>?_;subst hr;obtain⟨m,hn,_⟩:=id J4.loc;have hs:X.s₀.heap.objs.size<=C:=Nat.le_trans I2.sz hCle;refine⟨.next,D,H3,m,rfl,rfl,I2.call' (ch:=fp) J4.os J4.base J4.hok J4.bare (λb hb=>?_),qn,hn,J4.free,λz=>?_,hs,λx c h z=>?_,λp hp z=>?_⟩
   ·obtain⟨f0,f1,f2',f3,f4,f5⟩:=f2 b hb;exact⟨f3,f1,f4,f5⟩
   ·have:=I2.lt;rw[<-z]at this;exact absurd (Nat.lt_of_lt_of_le this hCle) (Nat.lt_irrefl _)
   ·obtain⟨v,o,z1,_⟩:=I2.cell x c h;have:=Heap.lt_size z1;rw[z]at this;exact absurd (Nat.lt_of_lt_of_le this hCle) (Nat.lt_irrefl _)
   ·have:=Heap.lt_size (I2.pin p hp).1;rw[z]at this;exact absurd (Nat.lt_of_lt_of_le this hCle) (Nat.lt_irrefl _)
  ·refine thn (T.item (yk X N' scope cl C fp s2 H2) rfl rfl rfl rfl i [] s3 σ3 H3 (λ_ _=>False) I3 (stat fr3) st3 go) λr s4 ⟨u,hr,h4⟩=>?_;subst hr;refine thn h4 λ_ s5 zr4=>?_;obtain⟨x,H5,I5,r5,y5,st5,fr5⟩:=zr4;have I5':=I5.pinned (stat fr5) (T.obj _ _ st5);refine thn (hg C fp s2 H2 _ s5 σ3 H5 x u _ I5' r5 (step x H5 y5)) λ_ s6 zr6=>?_;obtain⟨σ6,H6,I6,q6⟩:=zr6;refine thn (ht C fp s2 H2 _ s6 σ6 H6 _ I6 q6) λok s7 ⟨H7,I7,q7⟩=>?_
   have again:∀{H8:Hp}{s8:Shared},Inv (yk X N' scope cl C fp s2 H2) ([]++zaj fp s5.heap) σ6 H8 s8->(∃m',m' < n/\W (i+1) m' σ6 H8)->∃m,m<n/\∃i σ' H',Inv (yk X N' scope cl C fp s2 H2) [] σ' H' s8/\tn i s8.heap/\(∀b∈fp,H' b=none)/\W i m σ' H':=λ{H8 s8} I8 n8=>by
    obtain⟨m',hm,w8⟩:=n8;refine⟨m',hm,i+1,σ6,H8,I8.unpinned,T.keep _ _ _ st5 λb hb o e=>(I8.pin (b,o) (List.mem_append_right _ (List.mem_append_right _ (we hb e)))).1,λb hb=>?_,w8⟩;obtain⟨o,e,d⟩:=T.obj _ _ st5 b hb;exact(I8.pin (b,o) (List.mem_append_right _ (List.mem_append_right _ (we hb e)))).2.1
   cases ok with
   |false=>
    rw[if_neg Bool.false_ne_true]at q7;exact again I7 q7
   |true=>
    rw[if_pos rfl]at q7;refine thn (he C fp s2 H2 _ s7 σ6 H7 _ I7 q7) λy s8 zr19=>?_;obtain⟨v8,H8,I8,r8,q8⟩:=zr19;obtain⟨ys,e8,z8,w8⟩:=q8;refine thn (jz (X:=yk X N' scope cl C fp s2 H2) _ s8 σ6 H8 (.ref D) [v8] (.ref D) [y] (λv H=>∃m',m' < n/\W (i+1) m' σ6 H) I8 rfl (.cons r8 .nil) ⟨D,ys,v8,rfl,rfl,e8,z8,w8⟩) λ_ s9 zr21=>?_;obtain⟨v9,H9,I9,_,w9⟩:=zr21;exact again I9 w9
 exact codeAny_compStart_list (loop _ rfl) (T.self _ 0 _ _ _ tn0 (loop _ rfl))
theorem zux{elt tg iter:Expr}{ifs:List Expr}{scope:Scope}{pos:Pos}{cl:List (Str×Addr)}{N' capt:List Str}{k:Nat}{js:List Nat}{wi:TI}{g:TG}{tt:TT}{te:TE}(hc:X.calm=true)(L:zdx X scope cl N' capt k js)
  (hi:PI X tg iter wi) (hg:∀C fp s2 H2,PG (yk X N' scope cl C fp s2 H2) tg g) (ht:∀C fp s2 H2,PTs (yk X N' scope cl C fp s2 H2) ifs tt) (he:∀C fp s2 H2,PE (yk X N' scope cl C fp s2 H2) elt te)
  (hs:∀x,foldedSetIterable iter X.env x=pure x:=by intro _;rfl):PE X (.ListComp elt [⟨tg,iter,ifs,0⟩] scope pos) (tLC k js wi g tt te):=by
 intro pins s σ H Q I h;rw[eval_ListComp];refine wpAny_comprehension_free (use:=none) rfl hs L.clos L.kind L.names (thn (hi pins s σ H _ I h) λv s1 h1=>thn h1 λitv s2 h2=>?_);obtain⟨it,fp,tn,J,H2,e,I2,T,st2,f2,q⟩:=h2;subst e;refine thn (zgr (E:=X.xe) hc L hg ht he I2 T st2 f2 q) λacc s3 h3=>thn h3 λcenv s4 h4=>codeAny_mono h4 λr s' hr=>?_;obtain⟨f,D,H',m,rfl,rfl,J',qq,hn,b1,b2,b3,b4,b5⟩:=hr;exact⟨m,hn,λh' hsb=>⟨.ref D,H',LcEnd.let_go J' b1 b2 b3 b4 b5 hsb,rfl,qq⟩⟩
theorem zms{i:Nat}{x:Str}{elt tg iter:Expr}{ifs:List Expr}{scope:Scope}{pos pos' spos:Pos}{cl:List (Str×Addr)}{N' capt:List Str}{k:Nat}{js:List Nat}{wi:TI}{g:TG}{tt:TT}{te:TE}(hN:X.N.Nodup)(hi':X.N[i]?=some x)(hx:Loc X.env.scope x)(hc:X.calm=true)(L:zdx X scope cl N' capt k js)
  (hi:PI X tg iter wi) (hg:∀C fp s2 H2,PG (yk X N' scope cl C fp s2 H2) tg g) (ht:∀C fp s2 H2,PTs (yk X N' scope cl C fp s2 H2) ifs tt) (he:∀C fp s2 H2,PE (yk X N' scope cl C fp s2 H2) elt te)
  (hsw:swapsWith (.ListComp elt [⟨tg,iter,ifs,0⟩] scope pos) (some (.Name x pos')) spos.line X.env=pure true:=by rfl)
  (hs:∀x,foldedSetIterable iter X.env x=pure x:=by intro _;rfl) (hf:X.fn x=true\/X.env.scope.names.lookup x=some .local:=by first|exact .inl rfl|exact .inr rfl|assumption):PS X (.Assign [.Name x pos'] (.ListComp elt [⟨tg,iter,ifs,0⟩] scope pos) spos) (zo2 (tLC k js wi g tt te) (zmd i)):=by
 intro pins s σ H D I h;have h:tLC k js wi g tt te σ H (λv H1=>D.nx (σ.set i (some v)) H1):=h;rw[exec_Assign_Name_used _ _ _ _ hsw];refine wpAny_bind (wpAny_standAt (wpAny_bind ?_));show wpAny _ X.A (do let _ <-comprehension (.ListComp elt [⟨tg,iter,ifs,0⟩] scope pos) scope X.env _ (newList []) false (eval iter X.env) (some (assign (.Name x pos') X.env))) _ _ s;refine wpAny_bind (wpAny_mono (wpAny_comprehension_free (use:=some (assign (.Name x pos') X.env)) (Q:=λ_ s'=>SP X pins D .next s') rfl hs L.clos L.kind L.names
  (thn (hi pins s σ H _ I h) λv s1 h1=>thn h1 λitv s2 h2=>?_)) (λ_ s' hq=>wpAny_pure (wpAny_pure hq)) λ_ _ e=>e)
 obtain⟨it,fp,tn,J,H2,e,I2,T,st2,f2,q⟩:=h2;subst e;refine thn (zgr (E:=X.xe) hc L hg ht he I2 T st2 f2 q) λacc s3 h3=>thn h3 λcenv s4 h4=>codeAny_mono h4 λr s' hr=>?_;obtain⟨f,D',H',m,rfl,rfl,J',qq,hn,b1,b2,b3,b4,b5⟩:=hr;show wpAny _ X.A (assign (.Name x pos') X.env (.ref D')) _ _ _;refine wpAny_assign_Name (zbg (v:=.ref D') J' hN hi' hx rfl (λs'' J'' hsb=>?_) hf);obtain⟨a,hsb,ha⟩:=hsb;have hne:cenv.locals≠a:=by
  rcases ha with z|z
  ·rw[z];exact b2
  ·exact λz'=>b4 x a z z'.symm
 exact⟨m,hn.sameBut hsb hne,λh' hs'=>⟨_,H',LcEnd.let_go J'' b1 b2 b3 b4 b5 hs',qq⟩⟩
end
section
variable {X:Cx}{pins:List (Addr×Obj)}{σ:St}{H:Hp}{s:Shared}
theorem Inv.turnedNew{ch:List Addr}{p:Addr}{o:HO}{h':Heap}{t':Nat}(I:Inv X pins σ H s)(hch:∀b∈ch,FpOk X pins H b)(hp:s.heap.objs.size<=p)
  (k:∀b u,b∉ch->s.heap.get? b=some u->h'.get? b=some u) (new:ObjOk X.prog X.w (upd H p o) h' p o):Inv X pins σ (upd H p o) { s with heap:=h',toks:=t' }:=by
 have hn:=I.hok.fresh hp;have nch:∀b u,H b=some u->b∉ch:=λb u e z=>by rw[(hch b z).1]at e;cases e
 refine I.step (g':=s.gens) (d':=s.drawn) (ch:=ch) (λb hb=>?_) (λb u _ _ hc e _=>k b u hc e) (λb u _ _ hc e _=>⟨u.slots,k b u hc e⟩) (λb u hc e n=>?_) (λb u hc e=>⟨u,k b u hc e⟩)
  (λb xs e=>by rw[zn (yj e hn)];exact e) (λb u xs e=>by rw[zn (yj e hn)];exact e) (λb ps e=>⟨#[],by rw[zn (yj e hn),e];simp⟩) (λm hm=>?_) (λb u e=>?_) I.bare
 ·obtain⟨f0,f1,f2,f3,f4,f5⟩:=hch b hb;exact⟨f3,f1,f4,f5⟩
 ·rw[zn (Nat.ne_of_lt (Nat.lt_of_lt_of_le (Heap.lt_size e) hp))];exact n
 ·obtain⟨o',es,ep,ho,r⟩:=hm;exact⟨o',es,ep,k _ o' (λz=>(hch _ z).2.1 rfl) ho,r⟩
 ·by_cases hb:b=p
  ·subst hb;rw[zp]at e
   cases e;exact new
  ·rw[zn hb]at e;refine(I.hok b u e).stay (λc v hc q=>k c v ?_ q) (λc q=>by rw[zn (yj q hn)];exact q) (λc xs q=>by rw[zn (yj q hn)];exact q) (λc _ _ q=>by rw[zn (yj q hn)];exact q);rcases hc with z|z
   ·rw[z];exact nch b u e
   ·exact nch c _ z
theorem Inv.turnedL{ch:List Addr}{h':Heap}{t':Nat}(I:Inv X pins σ H s)(hch:∀b∈ch,FpOk X pins H b)
  (k:∀b u,b∉ch->s.heap.get? b=some u->h'.get? b=some u):Inv X pins σ H { s with heap:=h',toks:=t' }:=by
 have nch:∀b u,H b=some u->b∉ch:=λb u e z=>by rw[(hch b z).1]at e;cases e
 refine I.step (g':=s.gens) (d':=s.drawn) (ch:=ch) (λb hb=>?_) (λb u _ _ hc e _=>k b u hc e) (λb u _ _ hc e _=>⟨u.slots,k b u hc e⟩) (λb u hc e n=>n) (λb u hc e=>⟨u,k b u hc e⟩)
  (λb xs e=>e) (λb u xs e=>e) (λb ps e=>⟨#[],by rw[e];simp⟩) (λm hm=>?_) (λb u e=>?_) I.bare
 ·obtain⟨f0,f1,f2,f3,f4,f5⟩:=hch b hb;exact⟨f3,f1,f4,f5⟩
 ·obtain⟨o',es,ep,ho,r⟩:=hm;exact⟨o',es,ep,k _ o' (λz=>(hch _ z).2.1 rfl) ho,r⟩
 ·refine(I.hok b u e).stay (λc v hc q=>k c v ?_ q) (λc q=>q) λc xs q=>q;rcases hc with z|z
  ·rw[z];exact nch b u e
  ·exact nch c _ z
end
section
variable {X:Cx}
theorem zmt{X:Cx}(hc:X.calm=true):v7 X (.builtin "sum") (λxs H Q=>∃(p:Addr) (ns:List Int),xs = [.ref p]/\SqL X.K H p (ns.map V.int)/\Q (.int ns.sum) H):=by
 intro pins s σ H xs us Q I rv h;obtain⟨p,ns,rfl,hq,q⟩:=h;obtain⟨u,rfl,r1⟩:=rv.one
 cases r1;obtain⟨its,rvs,pl,hz⟩:=I.list hq;have hi:=qa rvs;obtain⟨xs,hxs⟩:=hi.allInts.items;have hl:=pl.isList;have hns:ns=numsOf its:=(hi.numsOf).symm;have hx2:its.toArray.toList=its:=rfl;rw[hxs]at hl;refine sum_intListG (I.ok.hd hc) hl λh' tk t' hk=>⟨.int ns.sum,H,I.kept hk,⟨t',?_⟩,q⟩
 rw[preSum_eq,List.take_of_length_le (by simp)];have:numsOf its=numsOf (intItems xs).toList:=by rw[<-hxs]
 rw[hns,this,nums_intItems]
theorem zkz{bs:List Bool}{its:List Value}(r:Vals (bs.map V.bl) its):(List.range its.toArray.size).all (λi=>bs.getD i true)=bs.all id:=by
 have hl:its.toArray.size=bs.length:=by have:=r.length;simp at this ⊢;omega
 rw[hl];clear hl r;apply Bool.eq_iff_iff.mpr;simp only[List.all_eq_true,List.mem_range,id];constructor
 ·intro h b hb;obtain⟨i,hi,e⟩:=List.getElem_of_mem hb;have:=h i hi;simp[List.getD,hi,e]at this;exact this
 ·intro h i hi;simp only[List.getD,List.getElem?_eq_getElem hi,Option.getD_some];exact h _ (List.getElem_mem hi)
theorem zmu{bs:List Bool}{its:List Value}(r:Vals (bs.map V.bl) its)(i:Nat)(v:Value)(h:its.toArray[i]?=some v):v=.bool (bs.getD i true):=by
 have h':its[i]?=some v:=by simpa using h
 have hi:i<its.length:=(List.getElem?_eq_some_iff.mp h').1;have hb:i<bs.length:=by have:=r.length;simp at this;omega
 obtain⟨u,hu,ru⟩:=r.get (i:=i) (x:=.bl bs[i]) (by simp[hb]);rw[h']at hu
 cases hu;have ru:v=.bool bs[i]:=ru;rw[ru];simp[List.getD,hb]
theorem zk0{A:Around}{E:Value->Shared->Prop}{s:Shared}{l:Addr}{its:Array Value}{Q:Value->Shared->Prop}{prog:Program}{w:World}(hl:s.heap.IsList l its)
  (h:∀s2:Shared,s2 = { s with heap:=s.heap.push { cls:=.type "list_iterator",data:=.fields #[.ref l,.int 0 0] } } ->
   (s2.heap.IsListIter s.heap.objs.size l 0/\s2.heap.IsList l its)->l≠s.heap.objs.size->Q (.ref s.heap.objs.size) s2) :
  wpAny (model prog w) A (pyIter (.ref l)) Q E s:=by
 have hlt:l<s.heap.objs.size:=by obtain⟨_,e,_⟩:=hl;exact Heap.lt_size e
 exact wpAny_pyIter_list hl (h _ rfl ⟨⟨_,Heap.get?_push_size _ rfl,rfl,rfl⟩,hl.push _⟩ (Nat.ne_of_lt hlt))
theorem zmv(hc:X.calm=true):v7 X (.builtin "all") (λxs H Q=>∃(p:Addr) (bs:List Bool),xs = [.ref p]/\SqL X.K H p (bs.map V.bl)/\Q (.bl (bs.all id)) H):=by
 intro pins s σ H xs us Q I rv h;obtain⟨p,bs,rfl,hq,q⟩:=h;obtain⟨u,rfl,r1⟩:=rv.one
 cases r1;obtain⟨its,rvs,pl,hz⟩:=I.list hq;refine call_all_walk (zk0 pl.isList λs2 e st hne=>?_);subst e;refine⟨_,_,_,_,_,_,λi=>bs.getD i true,rfl,Walks.list (A:=X.A.in1) (I.ok.hd hc) _ p hne its.toArray,st,λi v s Q E hP hQ=>?_,λh' tk hk=>?_⟩
 ·rw[zmu rvs i v hP];exact wpAny_truthy_bool hQ
 ·rw[zkz rvs];refine⟨.bl (bs.all id),H,I.kept (λb o e=>hk b o (λz=>?_) (Heap.get?_push_of_some _ e)),rfl,q⟩;rw[List.mem_singleton.mp z]at e;exact Nat.lt_irrefl _ (Heap.lt_size e)
def zuy(i j:Int):Prop:=0<j/\j<10000000000000000000000000000000000000000000000000000000000000
theorem zgs:OpR X (binaryOp .FloorDiv) (rI zuy λi j=>.int (i / j)):=opI λi j _ _ _ _ _ hc q=>by
 have h0:j≠0:=by have:=hc.1;omega
 have e:i.fdiv j=i / j:=Int.fdiv_eq_ediv_of_nonneg i (by have:=hc.1;omega);refine floordiv_int h0 (by rw[e];exact q) (.inl (PyProof.noPylong_of_log2 ?_));have h1:j.natAbs<2 ^ 400:=Nat.lt_of_lt_of_le (show j.natAbs<10000000000000000000000000000000000000000000000000000000000000 by have h1:=hc.1;have h2:=hc.2;omega) (by decide +kernel);have h2:j.natAbs≠0:=by omega
 exact Nat.lt_of_lt_of_le ((Nat.log2_lt h2).mpr h1) (by decide)
end
def yg(P:Program)(w:World)(K:PySem.W.Frag)(mg:Str->Option Value)(base:Heap)(k:Nat)(x:Str)(ps:List Str)(sp:Sp):Prop :=
 ∃f fd,FnOk P w K mg base CX0 k f fd ps sp/\Binds K fd ps []/\PySem.W.keepIn K (.ref f)=true/\mg x=some (.ref f)
theorem zcs{X:Cx}{k k':Nat}{x:Str}{ps:List Str}{sp:Sp}{e:Expr}{es:List Expr}{t:TA}{p pos:Pos}(C:yg X.prog X.w X.K X.mg X.base k x ps sp)(hr:Room k' X.A)(hg:Gl X x)(ha:PA X (e::es) t)(hk:k<=k':=by decide)
  (hdb:(x ==("__debug__" : Str))=false:=by decide) (he:starEach (e::es) X.env=(false,eval e X.env)::starEach es X.env:=by rfl) (hpl:(backTo pos (starEach es X.env)).any (·.1)=false:=by rfl) :
  PE X (.Call (.Name x p) (e::es) [] pos) (zmn sp [] E0 t):=by
 intro pins s σ H Q I h;obtain⟨f,fd,F,b,kp,m⟩:=C;exact zo5 F (hr.mono hk) hg m kp b .nil zqy ha hdb he hpl pins s σ H Q I h
def But(p:Addr)(H H':Hp):Prop:=∀b o,b≠p->H b=some o->H' b=some o
theorem But.trans{p:Addr}{H H1 H2:Hp}(a:But p H H1)(b:But p H1 H2):But p H H2:=λc o n h=>b c o n (a c o n h)
theorem But.of_same{p:Addr}{H H':Hp}(h:Same H H'):But p H H':=λb o _ q=>h b o q
theorem But.write{p:Addr}{H:Hp}{o:HO}:But p H (upd H p o):=λb u n q=>by rw[zn n];exact q
theorem Same.but{p:Addr}{H H1 H2:Hp}(a:Same H H1)(hp:H p=none)(b:But p H1 H2):Same H H2:=λc o h=>b c o (yj h hp) (a c o h)
theorem ya{H:Hp}{p:Addr}(h:H p=none)(o:HO):Same H (upd H p o):=λb u q=>by rw[zn (yj q h)];exact q
def Pen(H:Hp)(p:Addr):Prop:=∃a b c:Int,H p=some (.lst [.int a,.int b,.int c])
theorem small{n:Nat}(h:n<=10000):n<sizeLine:=Nat.lt_of_le_of_lt h (by decide)
theorem zsa{n:Nat}(h:n<=10000):n<=sizeLine:=Nat.le_of_lt (small h)
theorem zmw{α:Type}{xs:List α}{k:Int}(h0:0<=k)(h1:k<xs.length):∃v,atI xs k=some v/\xs[k.toNat]?=some v:=by
 have hk:k.toNat<xs.length:=by omega
 have ek:k=((k.toNat:Nat):Int):=by omega
 have q:atI xs ((k.toNat:Nat):Int)=some xs[k.toNat]:=jy (List.getElem?_eq_getElem hk);rw[<-ek]at q;exact⟨_,q,List.getElem?_eq_getElem hk⟩
theorem zpd{ns:List Int}{k:Int}(h0:0<=k)(h1:k<ns.length):∃v:Int,atI (ns.map V.int) k=some (.int v)/\ns[k.toNat]?=some v:=by
 obtain⟨v,h,e⟩:=zmw (xs:=ns.map V.int) h0 (by simpa using h1);rw[List.getElem?_map]at e
 cases q:ns[k.toNat]? with
 |none=>rw[q]at e;cases e
 |some n=>rw[q]at e;cases e;exact⟨n,h,rfl⟩
theorem Pen.ne{H:Hp}{p l:Addr}(h:Pen H p)(hl:H l=none):l≠p:=λe=>by
 obtain⟨a,b,c,q⟩:=h;rw[e]at hl;rw[hl]at q
 cases q
def NextLC(n i:Nat)(D:Addr)(Wv:Nat->St->Hp->Prop)(σ2:St)(y:V)(H4:Hp):Prop :=
 ∃ys,H4 D=some (.lst ys)/\ys.length<sizeLine/\∃m',m' < n-i/\(m'=n-(i+1)/\i+1<=n/\Wv (i+1) σ2 (upd H4 D (.lst (ys ++ [y]))))
def SkipLC(n i:Nat)(Wv:Nat->St->Hp->Prop)(σ2:St)(H3:Hp):Prop:=∃m',m' < n-i/\(m'=n-(i+1)/\i+1<=n/\Wv (i+1) σ2 H3)
theorem NextLC.mk{n i:Nat}{D:Addr}{Wv:Nat->St->Hp->Prop}{σ2:St}{y:V}{H4:Hp}(hi:i<n){ys:List V}(e:H4 D=some (.lst ys))(z:ys.length<=10000)(w:Wv (i+1) σ2 (upd H4 D (.lst (ys ++ [y])))):NextLC n i D Wv σ2 y H4 :=
 ⟨ys,e,small z,n-(i+1),by omega,rfl,hi,w⟩
theorem SkipLC.mk{n i:Nat}{Wv:Nat->St->Hp->Prop}{σ2:St}{H3:Hp}(hi:i<n)(w:Wv (i+1) σ2 H3):SkipLC n i Wv σ2 H3:=⟨n-(i+1),by omega,rfl,hi,w⟩
theorem pick{ns:List Int}{lo hi k:Int}(h0:0<=k)(h1:k<ns.length)(hb:∀x∈ns,lo<=x/\x<=hi):∃v:Int,atI (ns.map V.int) k=some (.int v)/\lo<=v/\v<=hi:=by
 obtain⟨v,hv,e⟩:=zpd (ns:=ns) h0 h1;exact⟨v,hv,hb v (List.mem_of_getElem? e)⟩
section
variable {prog:Program}{w:World}{A:Around}{E:Value->Shared->Prop}{s:Shared}
theorem zh6{it t:Addr}{i:Nat}{xs:Array Value}{x:Value}{Q:Value->Shared->Prop}(hi:s.heap.IsTupleIter it t i)(ht:s.heap.IsTuple t xs)(hx:xs[i]?=some x)
  (q:∀h',h'.IsTupleIter it t (i+1)->Heap.SameBut it s.heap h'->Q x { s with heap:=h' }):wpAny (model prog w) A (Builtin.SmallTypes.nextOf (.ref it)) Q E s:=by
 obtain⟨oi,e1,c1,d1⟩:=id hi;obtain⟨ot,e2,c2,n2,d2⟩:=id ht;unfold Builtin.SmallTypes.nextOf;refine wpAny_bind (wpAny_callSpecial?_slot (name:=Str.ofString "__next__") hi.typeIs F.slot_tuple_iterator_next (wpAny_call_entry F.slot_tuple_iterator_next hi.typeIs F.entry_tuple_iterator_next (show wpAny _ _ (field (.ref it) 0 >>= _) _ _ s from wpAny_bind (wpAny_field e1 d1 (x:=.ref t) rfl ?_)) (F.args_tuple_iterator_next_1 _)));show wpAny _ _ (if (Value.ref t == Value.none)=true then _ else _) _ _ s;rw[if_neg (λz:(Value.ref t == Value.none)=true=>Bool.false_ne_true z)];refine(show wpAny _ _ (field (.ref it) 1 >>= _) _ _ s from wpAny_bind (wpAny_field e1 d1 (x:=.int i 0) rfl (show wpAny _ _ (seqItems? (.ref t) >>= _) _ _ s from wpAny_bind (wpAny_seqItems e2 d2 ?_))));simp only[hx,Int.toNat_natCast];refine wpAny_bind (wpAny_setField e1 d1 (by simp) (wpAny_pure ⟨x,rfl,wpAny_pure (q _ ⟨_,Heap.get?_update_self _ e1 (Obj.isFreed_of_fields (Obj.data_mapFields d1 _)),(Obj.cls_mapFields ..).trans c1,?_⟩ (Heap.SameBut.update ..))⟩));rw[Obj.data_mapFields d1];simp[rawInt]
theorem zk1{it t:Addr}{i:Nat}{xs:Array Value}{Q:Value->Shared->Prop}(hh:A.handled=none)(hi:s.heap.IsTupleIter it t i)(ht:s.heap.IsTuple t xs)(hx:xs[i]?=none)
  (q:∀h' e,Heap.ExtBut it s.heap h'->(∃o,h'.get? e=some o/\o.cls=.type "StopIteration")->E (.ref e) { s with heap:=h' }):wpAny (model prog w) A (Builtin.SmallTypes.nextOf (.ref it)) Q E s:=by
 obtain⟨oi,e1,c1,d1⟩:=id hi;obtain⟨ot,e2,c2,n2,d2⟩:=id ht;unfold Builtin.SmallTypes.nextOf;refine wpAny_bind (wpAny_callSpecial?_slot (name:=Str.ofString "__next__") hi.typeIs F.slot_tuple_iterator_next (wpAny_call_entry F.slot_tuple_iterator_next hi.typeIs F.entry_tuple_iterator_next (show wpAny _ _ (field (.ref it) 0 >>= _) _ _ s from wpAny_bind (wpAny_field e1 d1 (x:=.ref t) rfl ?_)) (F.args_tuple_iterator_next_1 _)));show wpAny _ _ (if (Value.ref t == Value.none)=true then _ else _) _ _ s;rw[if_neg (λz:(Value.ref t == Value.none)=true=>Bool.false_ne_true z)];refine(show wpAny _ _ (field (.ref it) 1 >>= _) _ _ s from wpAny_bind (wpAny_field e1 d1 (x:=.int i 0) rfl (show wpAny _ _ (seqItems? (.ref t) >>= _) _ _ s from wpAny_bind (wpAny_seqItems e2 d2 ?_))));simp only[hx,Int.toNat_natCast];refine wpAny_bind (wpAny_rule (wpAny_bind (wpAny_setField e1 d1 (by simp) (show wpAny _ _ (newExc (.type "StopIteration") [] >>= _) _ _ _ from wpAny_bind ?_))));simp only[newTuple,newExc];refine wpAny_bind (wpAny_newObj_type (wpAny_bind (m:=firstArgMember _ _) (wpAny_of_eq (a:=Value.none) (by first|rfl |(simp only[firstArgMember];rfl)) (wpAny_newObj_type ?_ (by size_fits)))) (by size_fits));simp only[raiseNew];refine wpAny_bind (wpAny_handled ?_)
 first |(rw[hh]) |(rw[show A.in1.handled=none from hh])
 exact wpAny_bind (wpAny_pure (wpAny_throw (q _ _ (((Heap.SameBut.update ..).extBut.push _).push _) ⟨_,Heap.get?_push_size _ rfl,rfl⟩)))
end
def zIt(b:Bool)(h:Heap)(it l:Addr)(i:Nat):Prop:=if b=true then h.IsTupleIter it l i else h.IsListIter it l i
def zSq(b:Bool)(h:Heap)(l:Addr)(xs:Array Value):Prop:=if b=true then h.IsTuple l xs else h.IsList l xs
def zOb(b:Bool)(l:Addr):Obj:={ cls:=.type (if b=true then "tuple_iterator" else "list_iterator"),data:=.fields #[.ref l,.int 0 0] }
theorem zIt.at{b:Bool}{h h':Heap}{it l:Addr}{i:Nat}(x:zIt b h it l i)(e:∀o,h.get? it=some o->h'.get? it=some o):zIt b h' it l i:=by
 cases b
 ·exact Heap.IsListIter.at (show h.IsListIter it l i from x) e
 ·exact Heap.IsTupleIter.at (show h.IsTupleIter it l i from x) e
theorem zIt.but{b:Bool}{h h':Heap}{it l c:Addr}{i:Nat}(x:zIt b h it l i)(e:Heap.ExtBut c h h')(n:it≠c):zIt b h' it l i:=x.at λo q=>e it o n q
theorem zSq.but{b:Bool}{h h':Heap}{l c:Addr}{xs:Array Value}(x:zSq b h l xs)(e:Heap.ExtBut c h h')(n:l≠c):zSq b h' l xs:=by
 cases b
 ·exact Heap.IsList.extBut (show h.IsList l xs from x) e n
 ·exact Heap.IsTuple.extBut (show h.IsTuple l xs from x) e n
theorem zSq.push{b:Bool}{h:Heap}{l:Addr}{xs:Array Value}(x:zSq b h l xs)(o:Obj):zSq b (h.push o) l xs:=by
 cases b
 ·exact Heap.IsList.push (show h.IsList l xs from x) o
 ·exact Heap.IsTuple.push (show h.IsTuple l xs from x) o
theorem zSq.lt{b:Bool}{h:Heap}{l:Addr}{xs:Array Value}(x:zSq b h l xs):l<h.objs.size:=by
 cases b
 ·obtain⟨o,e,_⟩:=(show h.IsList l xs from x)
  exact Heap.lt_size e
 ·obtain⟨o,e,_⟩:=(show h.IsTuple l xs from x)
  exact Heap.lt_size e
theorem zIt.own{b:Bool}{h:Heap}{it l:Addr}{i:Nat}(x:zIt b h it l i):∃o,h.get? it=some o/\∀v,o.data ≠ .cell v:=by
 cases b
 ·obtain⟨o,e,c,d⟩:=(show h.IsListIter it l i from x)
  exact⟨o,e,λv q=>by rw[d]at q;cases q⟩
 ·obtain⟨o,e,c,d⟩:=(show h.IsTupleIter it l i from x)
  exact⟨o,e,λv q=>by rw[d]at q;cases q⟩
section
variable {prog:Program}{w:World}{A:Around}{E:Value->Shared->Prop}{s:Shared}
theorem km{b:Bool}{it l:Addr}{i:Nat}{xs:Array Value}{x:Value}{Q:Value->Shared->Prop}(hi:zIt b s.heap it l i)(hl:zSq b s.heap l xs)(hx:xs[i]?=some x)
  (q:∀h',zIt b h' it l (i+1)->Heap.SameBut it s.heap h'->Q x { s with heap:=h' }):wpAny (model prog w) A (Builtin.SmallTypes.nextOf (.ref it)) Q E s:=by
 cases b
 ·exact wpAny_nextOf_list_item hi hl hx q
 ·exact zh6 hi hl hx q
theorem j0{b:Bool}{it l:Addr}{i:Nat}{xs:Array Value}{Q:Value->Shared->Prop}(hh:A.handled=none)(hi:zIt b s.heap it l i)(hl:zSq b s.heap l xs)(hx:xs[i]?=none)
  (q:∀h' e,Heap.ExtBut it s.heap h'->(∃o,h'.get? e=some o/\o.cls=.type "StopIteration")->E (.ref e) { s with heap:=h' }):wpAny (model prog w) A (Builtin.SmallTypes.nextOf (.ref it)) Q E s:=by
 cases b
 ·exact wpAny_nextOf_list_end hh hi hl hx q
 ·exact zk1 hh hi hl hx q
theorem zgt{b:Bool}{l:Addr}{xs:Array Value}(hl:zSq b s.heap l xs){Q:Value->Shared->Prop}(q:Q (.ref s.heap.objs.size) { s with heap:=s.heap.push (zOb b l) }):wpAny (model prog w) A (pyIter (.ref l)) Q E s:=by
 cases b
 ·exact wpAny_pyIter_list hl q
 ·exact wpAny_pyIter_tuple hl q
theorem zk2{b1 b2:Bool}{z TI TO i1 i2 l1 l2:Addr}{k1 k2:Nat}{xs ys:Array Value}{x y a b:Value}{Q:Value->Shared->Prop}(D:ZipApart z TI TO i1 i2 l1 l2)(hz:IsZip s.heap z TI TO .none)(hI:IsPair s.heap TI (.ref i1) (.ref i2))(hO:IsPair s.heap TO a b)
  (h1:zIt b1 s.heap i1 l1 k1) (h2:zIt b2 s.heap i2 l2 k2) (q1:zSq b1 s.heap l1 xs) (q2:zSq b2 s.heap l2 ys) (hx:xs[k1]?=some x) (hy:ys[k2]?=some y)
  (q:∀h',IsZip h' z TI TO (rawInt s.heap.objs.size)->IsPair h' TO x y->zIt b1 h' i1 l1 (k1+1)->zIt b2 h' i2 l2 (k2+1)->IsPair h' s.heap.objs.size x y->h'.objs.size=s.heap.objs.size+1 ->
   (∀c o,c≠z->c≠TO->c≠i1->c≠i2->s.heap.get? c=some o->h'.get? c=some o)->Q (.ref s.heap.objs.size) { s with heap:=h' }) :
  wpAny (model prog w) A (Builtin.«zip.__next__» ⟨[.ref z],[]⟩) (λfin s'=>∃v,fin=.done (.ret v)/\Q v s') E s:=by
 refine(show wpAny _ _ (field (.ref z) 2 >>= _) _ _ _ from wpAny_bind (wpAny_field hz rfl (x:=.bool false) rfl (show wpAny _ _ (field (.ref z) 3 >>= _) _ _ _ from wpAny_bind (wpAny_field hz rfl (x:=.ref TI) rfl (wpAny_bind (wpAny_seqItems hI rfl (show wpAny _ _ (Builtin.SmallTypes.ownedTupleIsFree (.ref z) >>= _) _ _ _ from wpAny_bind ?_)))))));unfold Builtin.SmallTypes.ownedTupleIsFree;refine wpAny_bind (wpAny_field hz rfl (x:=.none) rfl (wpAny_pure ?_));simp only[if_true];refine wpAny_bind (wpAny_rule (wpAny_bind (wpAny_field hz rfl (x:=.ref TO) rfl (wpAny_bind (wpAny_setField_rec hz (by simp) λg1 z1 s1=>wpAny_bind ?_)))))
 replace z1:IsZip g1 z TI TO .ellipsis:=z1
 simp only[List.zipIdx_nil,List.zipIdx_cons,List.forIn_nil,List.forIn_cons];refine wpAny_bind (wpAny_bind (wpAny_onRaise (show wpAny _ _ (Builtin.SmallTypes.nextOf (.ref i1) >>= _) _ _ _ from wpAny_bind (km (h1.but s1.extBut D.i1z) (q1.but s1.extBut D.l1z) hx λg2 t2 s2=>wpAny_pure ?_))));have O2:IsPair g2 TO a b:=s2.extBut _ _ D.TOi1 (s1.extBut _ _ D.TOz hO);refine wpAny_bind (wpAny_seqItems O2 rfl (wpAny_bind (wpAny_updateSeq_pair O2 λg3 O3 s3=>wpAny_bind (wpAny_letGo (wpAny_pure ?_)))))
 replace O3:IsPair g3 TO x b:=O3
 refine wpAny_bind (wpAny_bind (wpAny_onRaise (show wpAny _ _ (Builtin.SmallTypes.nextOf (.ref i2) >>= _) _ _ _ from wpAny_bind (km (((h2.but s1.extBut D.i2z).but s2.extBut D.i12.symm).but s3.extBut D.TOi2.symm) (((q2.but s1.extBut D.l2z).but s2.extBut D.l2i1).but s3.extBut D.l2TO) hy λg4 t4 s4=>wpAny_pure ?_))));have O4:IsPair g4 TO x b:=s4.extBut _ _ D.TOi2 O3;refine wpAny_bind (wpAny_seqItems O4 rfl (wpAny_bind (wpAny_updateSeq_pair O4 λg5 O5 s5=>wpAny_bind (wpAny_letGo (wpAny_pure (wpAny_pure ?_))))))
 replace O5:IsPair g5 TO x y:=O5
 refine wpAny_bind (wpAny_seqItems O5 rfl (wpAny_bind (wpAny_newTuple ?_)));have sz:g5.objs.size=s.heap.objs.size:=by rw[s5.1,s4.1,s3.1,s2.1,s1.1]
 have z5:IsZip g5 z TI TO .ellipsis:=s5.extBut _ _ D.TOz.symm (s4.extBut _ _ D.i2z.symm (s3.extBut _ _ D.TOz.symm (s2.extBut _ _ D.i1z.symm z1)));have k5:∀c o,c≠z->c≠TO->c≠i1->c≠i2->s.heap.get? c=some o->g5.get? c=some o:=λc o n1 n2 n3 n4 e=>s5.extBut _ _ n2 (s4.extBut _ _ n4 (s3.extBut _ _ n2 (s2.extBut _ _ n3 (s1.extBut _ _ n1 e))));have t5:zIt b1 g5 i1 l1 (k1+1):=((t2.but s3.extBut D.TOi1.symm).but s4.extBut D.i12).but s5.extBut D.TOi1.symm;have u5:zIt b2 g5 i2 l2 (k2+1):=t4.but s5.extBut D.TOi2.symm;have lz:z<g5.objs.size:=Heap.lt_size z5;refine(show wpAny _ _ (Builtin.SmallTypes.ownedTupleHandOut (.ref z) (.ref g5.objs.size) >>= _) _ _ _ from wpAny_bind ?_);unfold Builtin.SmallTypes.ownedTupleHandOut;have z6:IsZip (g5.push { cls:=.type "tuple",data:=.seq #[x,y] }) z TI TO .ellipsis:=Heap.get?_push_of_some _ z5;refine wpAny_bind (wpAny_setField_rec z6 (by simp) λg7 z7 s7=>?_)
 replace z7:IsZip g7 z TI TO (rawInt g5.objs.size):=z7
 refine wpAny_setField_rec z7 (by simp) λg8 z8 s8=>?_
 replace z8:IsZip g8 z TI TO (rawInt g5.objs.size):=z8
 have up:∀c o,c≠z->g5.get? c=some o->g8.get? c=some o:=λc o n e=>s8.extBut _ _ n (s7.extBut _ _ n (Heap.get?_push_of_some _ e));have p8:IsPair g8 g5.objs.size x y:=s8.extBut _ _ (Nat.ne_of_gt lz) (s7.extBut _ _ (Nat.ne_of_gt lz) (Heap.get?_push_size _ rfl));have n8:g8.objs.size=g5.objs.size+1:=by rw[s8.1,s7.1,Heap.size_push]
 rw[sz]at z8 p8 n8;refine wpAny_pure ⟨_,rfl,(show Q (.ref g5.objs.size) _ from ?_)⟩;rw[sz];exact q g8 z8 (up _ _ D.TOz O5) (t5.at λo e=>up _ o D.i1z e) (u5.at λo e=>up _ o D.i2z e) p8 n8 λc o n1 n2 n3 n4 e=>up c o n1 (k5 c o n1 n2 n3 n4 e)
theorem zmx{b1 b2:Bool}{z TI TO i1 i2 l1 l2:Addr}{k1 k2:Nat}{xs ys:Array Value}{a b:Value}{Q:Fin->Shared->Prop}(hh:A.handled=none)(D:ZipApart z TI TO i1 i2 l1 l2)(hz:IsZip s.heap z TI TO .none)(hI:IsPair s.heap TI (.ref i1) (.ref i2))(hO:IsPair s.heap TO a b)
  (h1:zIt b1 s.heap i1 l1 k1) (h2:zIt b2 s.heap i2 l2 k2) (q1:zSq b1 s.heap l1 xs) (q2:zSq b2 s.heap l2 ys) (he:xs[k1]?=none\/ys[k2]?=none)
  (q:∀h' e,(∀c o,c≠z->c≠TO->c≠i1->c≠i2->s.heap.get? c=some o->h'.get? c=some o)->(∃o,h'.get? e=some o/\o.cls=.type "StopIteration")->E (.ref e) { s with heap:=h' }) :
  wpAny (model prog w) A (Builtin.«zip.__next__» ⟨[.ref z],[]⟩) Q E s:=by
 refine(show wpAny _ _ (field (.ref z) 2 >>= _) _ _ _ from wpAny_bind (wpAny_field hz rfl (x:=.bool false) rfl (show wpAny _ _ (field (.ref z) 3 >>= _) _ _ _ from wpAny_bind (wpAny_field hz rfl (x:=.ref TI) rfl (wpAny_bind (wpAny_seqItems hI rfl (show wpAny _ _ (Builtin.SmallTypes.ownedTupleIsFree (.ref z) >>= _) _ _ _ from wpAny_bind ?_)))))));unfold Builtin.SmallTypes.ownedTupleIsFree;refine wpAny_bind (wpAny_field hz rfl (x:=.none) rfl (wpAny_pure ?_));simp only[if_true];refine wpAny_bind (wpAny_rule (wpAny_bind (wpAny_field hz rfl (x:=.ref TO) rfl (wpAny_bind (wpAny_setField_rec hz (by simp) λg1 z1 s1=>wpAny_bind ?_)))))
 replace z1:IsZip g1 z TI TO .ellipsis:=z1
 simp only[List.zipIdx_nil,List.zipIdx_cons,List.forIn_nil,List.forIn_cons]
 cases hx:xs[k1]? with
 |none=>
  refine wpAny_bind (wpAny_bind (wpAny_onRaise (show wpAny _ _ (Builtin.SmallTypes.nextOf (.ref i1) >>= _) _ _ _ from wpAny_bind (j0 hh (h1.but s1.extBut D.i1z) (q1.but s1.extBut D.l1z) hx λg2 e s2 ⟨oe,ee,ce⟩=>?_))));have z2:IsZip g2 z TI TO .ellipsis:=s2 _ _ D.i1z.symm z1;have nez:e≠z:=λt=>by subst t;rw[z2]at ee;cases ee;simp at ce
  exact wpAny_setField_rec z2 (by simp) λg3 _ s3=>q g3 e (λc o n1 _ n3 _ t=>s3.extBut _ _ n1 (s2 _ _ n3 (s1.extBut _ _ n1 t))) ⟨oe,s3.extBut _ _ nez ee,ce⟩
 |some x=>
  have hy:ys[k2]?=none:=he.resolve_left (by rw[hx];exact λt=>nomatch t);refine wpAny_bind (wpAny_bind (wpAny_onRaise (show wpAny _ _ (Builtin.SmallTypes.nextOf (.ref i1) >>= _) _ _ _ from wpAny_bind (km (h1.but s1.extBut D.i1z) (q1.but s1.extBut D.l1z) hx λg2 t2 s2=>wpAny_pure ?_))));have O2:IsPair g2 TO a b:=s2.extBut _ _ D.TOi1 (s1.extBut _ _ D.TOz hO);refine wpAny_bind (wpAny_seqItems O2 rfl (wpAny_bind (wpAny_updateSeq_pair O2 λg3 O3 s3=>wpAny_bind (wpAny_letGo (wpAny_pure ?_)))));refine wpAny_bind (wpAny_bind (wpAny_onRaise (show wpAny _ _ (Builtin.SmallTypes.nextOf (.ref i2) >>= _) _ _ _ from wpAny_bind (j0 hh (((h2.but s1.extBut D.i2z).but s2.extBut D.i12.symm).but s3.extBut D.TOi2.symm) (((q2.but s1.extBut D.l2z).but s2.extBut D.l2i1).but s3.extBut D.l2TO) hy λg4 e s4 ⟨oe,ee,ce⟩=>?_))));have z4:IsZip g4 z TI TO .ellipsis:=s4 _ _ D.i2z.symm (s3.extBut _ _ D.TOz.symm (s2.extBut _ _ D.i1z.symm z1));have nez:e≠z:=λt=>by subst t;rw[z4]at ee;cases ee;simp at ce
  exact wpAny_setField_rec z4 (by simp) λg5 _ s5=>q g5 e (λc o n1 n2 n3 n4 t=>s5.extBut _ _ n1 (s4 _ _ n4 (s3.extBut _ _ n2 (s2.extBut _ _ n3 (s1.extBut _ _ n1 t))))) ⟨oe,s5.extBut _ _ nez ee,ce⟩
theorem zct{b1 b2:Bool}{z TI TO i1 i2 l1 l2:Addr}{k1 k2:Nat}{xs ys:Array Value}{x y a b:Value}{Q:Option Value->Shared->Prop}(D:ZipApart z TI TO i1 i2 l1 l2)(hz:IsZip s.heap z TI TO .none)(hI:IsPair s.heap TI (.ref i1) (.ref i2))(hO:IsPair s.heap TO a b)
  (h1:zIt b1 s.heap i1 l1 k1) (h2:zIt b2 s.heap i2 l2 k2) (q1:zSq b1 s.heap l1 xs) (q2:zSq b2 s.heap l2 ys) (hx:xs[k1]?=some x) (hy:ys[k2]?=some y)
  (q:∀h',IsZip h' z TI TO (rawInt s.heap.objs.size)->IsPair h' TO x y->zIt b1 h' i1 l1 (k1+1)->zIt b2 h' i2 l2 (k2+1)->IsPair h' s.heap.objs.size x y->h'.objs.size=s.heap.objs.size+1 ->
   (∀c o,c≠z->c≠TO->c≠i1->c≠i2->s.heap.get? c=some o->h'.get? c=some o)->Q (some (.ref s.heap.objs.size)) { s with heap:=h' }):wpAny (model prog w) A (pyNext (.ref z)) Q E s:=by
 have hT:s.TypeIs (.ref z) "zip" :=⟨_,hz,rfl⟩
 unfold pyNext;exact wpAny_bind (wpAny_attempt (wpAny_callSpecial?_slot (name:=Str.ofString "__next__") hT F.slot_zip_next (wpAny_call_entry F.slot_zip_next hT F.entry_zip_next (zk2 D hz hI hO h1 h2 q1 q2 hx hy λh' a1 a2 a3 a4 a5 a6 a7=>wpAny_pure (q h' a1 a2 a3 a4 a5 a6 a7)) (F.args_zip_next_1 _))))
theorem zdy{b1 b2:Bool}{z TI TO i1 i2 l1 l2:Addr}{k1 k2:Nat}{xs ys:Array Value}{a b:Value}{Q:Option Value->Shared->Prop}(hh:A.handled=none)(D:ZipApart z TI TO i1 i2 l1 l2)(hz:IsZip s.heap z TI TO .none)(hI:IsPair s.heap TI (.ref i1) (.ref i2))(hO:IsPair s.heap TO a b)
  (h1:zIt b1 s.heap i1 l1 k1) (h2:zIt b2 s.heap i2 l2 k2) (q1:zSq b1 s.heap l1 xs) (q2:zSq b2 s.heap l2 ys) (he:xs[k1]?=none\/ys[k2]?=none)
  (q:∀h',(∀c o,c≠z->c≠TO->c≠i1->c≠i2->s.heap.get? c=some o->h'.get? c=some o)->Q none { s with heap:=h' }):wpAny (model prog w) A (pyNext (.ref z)) Q E s:=by
 have hT:s.TypeIs (.ref z) "zip" :=⟨_,hz,rfl⟩
 unfold pyNext;exact wpAny_bind (wpAny_attempt (wpAny_callSpecial?_slot (name:=Str.ofString "__next__") hT F.slot_zip_next (wpAny_call_entry F.slot_zip_next hT F.entry_zip_next (zmx hh D hz hI hO h1 h2 q1 q2 he λh' e k ⟨o,ho,hc⟩=>wpAny_bind (wpAny_isInstance (T := "StopIteration") (b:=true) ⟨o,ho,hc⟩ isSubtype_stop (wpAny_pure (q _ k)))) (F.args_zip_next_1 _))))
end
abbrev zG1(b1:Bool)(h:Heap)(l1:Addr):Heap:=h.push (zOb b1 l1)
abbrev zG2(b1 b2:Bool)(h:Heap)(l1 l2:Addr):Heap:=(zG1 b1 h l1).push (zOb b2 l2)
abbrev zG3(b1 b2:Bool)(h:Heap)(l1 l2:Addr):Heap:=(zG2 b1 b2 h l1 l2).push { cls:=.type "tuple",data:=.seq #[.ref h.objs.size,.ref (zG1 b1 h l1).objs.size] }
abbrev zG4(b1 b2:Bool)(h:Heap)(l1 l2:Addr):Heap:=(zG3 b1 b2 h l1 l2).push { cls:=.type "tuple",data:=.seq #[.none,.none] }
abbrev zG5(b1 b2:Bool)(h:Heap)(l1 l2:Addr):Heap:=(zG4 b1 b2 h l1 l2).push { cls:=.type "zip",data:=.fields #[.none,.bool false,.bool false,.ref (zG2 b1 b2 h l1 l2).objs.size,.ref (zG3 b1 b2 h l1 l2).objs.size] }
theorem zmy(b1 b2:Bool)(l1 l2:Addr)(xs ys:Array Value):Meets (Builtin.«zip.__new__» ⟨[.type "zip",.ref l1,.ref l2],[]⟩) (λ_ R s=>zSq b1 s.heap l1 xs/\zSq b2 s.heap l2 ys/\R (.ok (.ret (.ref (zG4 b1 b2 s.heap l1 l2).objs.size))) { s with heap:=zG5 b1 b2 s.heap l1 l2 }) :=
 .of_wp λprog w A R s h=>by
  obtain⟨hp,g,d,tk,os⟩:=s;obtain⟨q1,q2,h⟩:=h;have hsub:=sub_zip;have L1:zSq b1 (Shared.heap ⟨hp,g,d,tk,os⟩) l1 xs:=q1;have L2:zSq b2 (Shared.heap ⟨hp.push (zOb b1 l1),g,d,tk,os⟩) l2 ys:=q2.push _
  wp_walk using zgt L1,zgt L2
  exact⟨_,rfl,h⟩
theorem zk3{prog:Program}{w:World}{A:Around}{E:Value->Shared->Prop}{s:Shared}{b1 b2:Bool}{l1 l2:Addr}{xs ys:Array Value}{Q:Value->Shared->Prop}(q1:zSq b1 s.heap l1 xs)(q2:zSq b2 s.heap l2 ys)
  (h:∀h',IsZip h' (s.heap.objs.size+4) (s.heap.objs.size+2) (s.heap.objs.size+3) .none->IsPair h' (s.heap.objs.size+2) (.ref s.heap.objs.size) (.ref (s.heap.objs.size+1))->IsPair h' (s.heap.objs.size+3) .none .none ->
   zIt b1 h' s.heap.objs.size l1 0->zIt b2 h' (s.heap.objs.size+1) l2 0->(∀c o,s.heap.get? c=some o->h'.get? c=some o)->Q (.ref (s.heap.objs.size+4)) { s with heap:=h' }) :
  wpAny (model prog w) A (call (.type "zip") [.ref l1,.ref l2]) Q E s:=by
 refine callType_new F.called_zip (by decide) (F.typeCall_zip_2 _ _) (F.newCall_zip_2 _ _) (λobj=>F.args_object_init_3 obj _ _) F.entry_zip_new (zmy b1 b2 l1 l2 xs ys) ⟨q1,q2,?_⟩;have z1:(zG1 b1 s.heap l1).objs.size=s.heap.objs.size+1:=Heap.size_push ..;have z2:(zG2 b1 b2 s.heap l1 l2).objs.size=s.heap.objs.size+2:=by rw[Heap.size_push,z1]
 have z3:(zG3 b1 b2 s.heap l1 l2).objs.size=s.heap.objs.size+3:=by rw[Heap.size_push,z2]
 have z4:(zG4 b1 b2 s.heap l1 l2).objs.size=s.heap.objs.size+4:=by rw[Heap.size_push,z3]
 have g5:(zG5 b1 b2 s.heap l1 l2).get? (zG4 b1 b2 s.heap l1 l2).objs.size=some _:=Heap.get?_push_size _ rfl;have g4:(zG5 b1 b2 s.heap l1 l2).get? (zG3 b1 b2 s.heap l1 l2).objs.size=some _:=Heap.get?_push_of_some _ (Heap.get?_push_size _ rfl);have g3:(zG5 b1 b2 s.heap l1 l2).get? (zG2 b1 b2 s.heap l1 l2).objs.size=some _:=Heap.get?_push_of_some _ (Heap.get?_push_of_some _ (Heap.get?_push_size _ rfl));have g2:(zG5 b1 b2 s.heap l1 l2).get? (zG1 b1 s.heap l1).objs.size=some (zOb b2 l2):=Heap.get?_push_of_some _ (Heap.get?_push_of_some _ (Heap.get?_push_of_some _ (Heap.get?_push_size _ rfl)));have g1:(zG5 b1 b2 s.heap l1 l2).get? s.heap.objs.size=some (zOb b1 l1):=Heap.get?_push_of_some _ (Heap.get?_push_of_some _ (Heap.get?_push_of_some _ (Heap.get?_push_of_some _ (Heap.get?_push_size _ rfl))));show _/\_;rw[z2,z3,z4]at g5;rw[z1,z2]at g3;rw[z3]at g4;rw[z1]at g2;rw[z4];have i1:zIt b1 (zG5 b1 b2 s.heap l1 l2) s.heap.objs.size l1 0:=by
  cases b1
  ·exact⟨_,g1,rfl,rfl⟩
  ·exact⟨_,g1,rfl,rfl⟩
 have i2:zIt b2 (zG5 b1 b2 s.heap l1 l2) (s.heap.objs.size+1) l2 0:=by
  cases b2
  ·exact⟨_,g2,rfl,rfl⟩
  ·exact⟨_,g2,rfl,rfl⟩
 exact⟨⟨_,g5,rfl⟩,h _ g5 g3 g4 i1 i2 λc o x=>Heap.get?_push_of_some _ (Heap.get?_push_of_some _ (Heap.get?_push_of_some _ (Heap.get?_push_of_some _ (Heap.get?_push_of_some _ x))))⟩
def SqG(b:Bool)(K:PySem.W.Frag)(H:Hp)(a:Addr)(xs:List V):Prop:=if b=true then SqT K H a xs else SqL K H a xs
theorem Inv.sqG{X:Cx}{pins:List (Addr×Obj)}{σ:St}{H:Hp}{s:Shared}{b:Bool}{a:Addr}{xs:List V}(I:Inv X pins σ H s)(h:SqG b X.K H a xs):∃its:List Value,Vals xs its/\zSq b s.heap a its.toArray/\xs.length<=sizeLine:=by
 cases b
 ·obtain⟨its,r,p,z⟩:=I.list (show SqL X.K H a xs from h);exact⟨its,r,p.isList,z⟩
 ·obtain⟨its,r,p,z⟩:=I.tuple (show SqT X.K H a xs from h);exact⟨its,r,p,z⟩
theorem Inv.sqG_inj{X:Cx}{pins:List (Addr×Obj)}{σ:St}{H:Hp}{s:Shared}{b:Bool}{a:Addr}{xs ys:List V}(I:Inv X pins σ H s)(h:SqG b X.K H a xs)(h':SqG b X.K H a ys):xs=ys:=by
 cases b
 ·exact I.list_inj (show SqL X.K H a xs from h) h'
 ·exact I.tuple_inj (show SqT X.K H a xs from h) h'
def Izg(b1 b2:Bool)(K:PySem.W.Frag)(a b:Addr):It :=
 ⟨λi H=>∃xs ys x y,SqG b1 K H a xs/\SqG b2 K H b ys/\xs[i]?=some x/\ys[i]?=some y,λi H v H'=>∃p x y,H p=none/\v=.ref p/\H'=upd H p (.tup [x,y])/\(∀xs,SqG b1 K H a xs->xs[i]?=some x)/\∀ys,SqG b2 K H b ys->ys[i]?=some y,λi H=>∃xs ys,SqG b1 K H a xs/\SqG b2 K H b ys/\(xs.length<=i\/ys.length<=i)⟩
theorem zk4{P:Program}{w:World}{K:PySem.W.Frag}{b1 b2:Bool}{elts:List Expr}{x1}{tpos:Pos}{l1 l2 z TI TO i1 i2:Addr}(D:ZipApart z TI TO i1 i2 l1 l2):
  zfa P w K (.Tuple elts x1 tpos) (Izg b1 b2 K l1 l2) [z,TI,TO,i1,i2] z (λi h=>IsZip h z TI TO .none/\IsPair h TI (.ref i1) (.ref i2)/\(∃a b,IsPair h TO a b)/\zIt b1 h i1 l1 i/\zIt b2 h i2 l2 i) where
 mem:=by simp
 obj:=λi h st b hb=>by
  obtain⟨hz,hTI,⟨a,b',hTO⟩,h1,h2⟩:=st;simp only[List.mem_cons,List.not_mem_nil,or_false]at hb;rcases hb with rfl|rfl|rfl|rfl|rfl
  ·exact⟨_,hz,λv q=>by cases (show Data.fields _=Data.cell v from q)⟩
  ·exact⟨_,hTI,λv q=>by cases (show Data.seq _ _=Data.cell v from q)⟩
  ·exact⟨_,hTO,λv q=>by cases (show Data.seq _ _=Data.cell v from q)⟩
  ·exact h1.own
  ·exact h2.own
 keep:=λi h h' st k=>by
  obtain⟨hz,hTI,⟨a,b',hTO⟩,h1,h2⟩:=st;exact⟨k _ (by simp) _ hz,k _ (by simp) _ hTI,⟨a,b',k _ (by simp) _ hTO⟩,h1.at λo e=>k i1 (by simp) o e,h2.at λo e=>k i2 (by simp) o e⟩
 item:=by
  intro X hP hw hK hc i pins s σ H E I hf st hg;subst hP hw hK;refine gg λG zk=>?_;obtain⟨xs,ys,x,y,hq1,hq2,hx,hy⟩:=hg;obtain⟨hz,hTI,⟨a,b',hTO⟩,h1,h2⟩:=st;obtain⟨its1,rv1,p1,hz1⟩:=I.sqG hq1;obtain⟨its2,rv2,p2,hz2⟩:=I.sqG hq2;obtain⟨u1,hu1,ru1⟩:=rv1.get hx;obtain⟨u2,hu2,ru2⟩:=rv2.get hy;refine zk ?_;clear zk;refine zct D hz hTI hTO h1 h2 p1 p2 (x:=u1) (y:=u2) (by simpa using hu1) (by simpa using hu2) λh' hz' hTO' h1' h2' hp' hsz hk=>⟨_,rfl,?_⟩
  refine wpAny_letOwnedTupleGo_zip hz' λh'' hz'' hsb=>?_;have ne:s.heap.objs.size≠z:=λq=>by have:=Heap.lt_size hz;rw[<-q]at this;exact Nat.lt_irrefl _ this
  have hp2:IsPair h'' s.heap.objs.size u1 u2:=(hsb.2 _ ne).trans hp';have nb:∀c o,s.heap.get? c=some o->c≠s.heap.objs.size:=λc o e=>Nat.ne_of_lt (Heap.lt_size e);have I1:Inv X pins σ (upd H s.heap.objs.size (.tup [x,y])) { s with heap:=h'',toks:=s.toks }:=by
   refine I.turnedNew (ch:=[z,TI,TO,i1,i2]) hf (Nat.le_refl _) (λb u hb e=>?_) ⟨by simp[sizeLine_eq],[u1,u2],.cons ru1 (.cons ru2 .nil),?_⟩
   ·simp only[List.mem_cons,List.not_mem_nil,or_false,not_or]at hb;exact(hsb.2 b hb.1).trans (hk b u hb.1 hb.2.2.1 hb.2.2.2.1 hb.2.2.2.2 e)
   ·exact⟨_,hp2,rfl,⟨_,rfl⟩,rfl⟩
  refine⟨.ref s.heap.objs.size,_,I1,rfl,⟨_,x,y,I.hok.fresh (Nat.le_refl _),rfl,rfl,λxs' h=>by rw[I.sqG_inj h hq1];exact hx,λys' h=>by rw[I.sqG_inj h hq2];exact hy⟩,⟨hz'',?_,?_,?_,?_⟩,λb hb=>?_⟩
  ·exact(hsb.2 _ D.TIz).trans (hk _ _ D.TIz D.TITO D.TIi1 D.TIi2 hTI)
  ·exact⟨_,_,(hsb.2 _ D.TOz).trans hTO'⟩
  ·exact h1'.at λo e=>(hsb.2 _ D.i1z).trans e
  ·exact h2'.at λo e=>(hsb.2 _ D.i2z).trans e
  ·rw[zn]
   ·exact(hf b hb).1
   ·intro q;subst q;simp only[List.mem_cons,List.not_mem_nil,or_false]at hb;obtain⟨o1,e1,_⟩:=h1.own;obtain⟨o2,e2,_⟩:=h2.own;rcases hb with q|q|q|q|q
    ·exact nb _ _ hz q.symm
    ·exact nb _ _ hTI q.symm
    ·exact nb _ _ hTO q.symm
    ·exact nb _ _ e1 q.symm
    ·exact nb _ _ e2 q.symm
 done:=by
  intro X hP hw hK hc i pins s σ H E I hf st hg;subst hP hw hK;obtain⟨xs,ys,hq1,hq2,hl⟩:=hg;obtain⟨hz,hTI,⟨a,b',hTO⟩,h1,h2⟩:=st;obtain⟨its1,rv1,p1,hz1⟩:=I.sqG hq1;obtain⟨its2,rv2,p2,hz2⟩:=I.sqG hq2;have e1:=rv1.length;have e2:=rv2.length;refine zdy (I.ok.hd hc) D hz hTI hTO h1 h2 p1 p2 (by rcases hl with q|q;exact .inl (by simp;omega);exact .inr (by simp;omega)) λh' hk=>⟨rfl,?_⟩
  refine I.turnedL (t':=s.toks) (ch:=[z,TI,TO,i1,i2]) hf λb u hb e=>?_;simp only[List.mem_cons,List.not_mem_nil,or_false,not_or]at hb;exact hk b u hb.1 hb.2.2.1 hb.2.2.2.1 hb.2.2.2.2 e
 self:=λ_ _ _ _ _ st h=>wpAny_pyIter_zip st.1 h
section
variable {X:Cx}
theorem zk5{prog:Program}{w:World}{A:Around}{E:Value->Shared->Prop}{s:Shared}{t sl:Addr}{its:Array Value}{vl vu:Value}{lo hi:Option Int}{Q:Value->Shared->Prop}(ht:IsTup s.heap t its)(hs:s.heap.IsSliceOf sl vl vu .none)(pl:IsPart vl lo)(pu:IsPart vu hi)
  (h0:HT.sIx its.size 0 lo=0) (h1:HT.sIx its.size its.size hi=its.size) (h:Q (.ref t) s):wpAny (model prog w) A (getItem (.ref t) (.ref sl)) Q E s:=by
 obtain⟨os,hos,hcs,hds⟩:=id hs;have hTs:s.TypeIs (.ref sl) "slice" :=⟨os,hos,hcs⟩
 unfold getItem
 try with_reducible refine wpAny_holding ?_
 first |(refine wpAny_bind (wpAny_pure ?_))|skip
 refine wpAny_bind (wpAny_sequenceKey ht.typeIs (by decide) (wpAny_bind (wpAny_callSpecial?_slot (name:=Str.ofString "__getitem__") ht.typeIs PyProof.Rows.slot_tuple_getitem (wpAny_call_entry PyProof.Rows.slot_tuple_getitem ht.typeIs entry_tuple_getitem ?_ (args_tuple_getitem _ _)))));refine(show wpAny _ _ (Builtin.Tuple.tupleItemsOf (.ref t) >>= _) _ _ s from wpAny_bind (tupleItemsOf_ ht (wpAny_bind (wpAny_typeOf hTs ?_))));rw[if_pos (by decide)];refine wpAny_bind (HT.sliceApplied_gen hs pl pu ?_);rw[h0,h1];have hy:(((((0:Nat):Int) == 0 && (1:Int) == 1) && (its.size-0 == its.size))=true):=by simp
 show wpAny _ _ (if (((0:Nat):Int) == 0 && (1:Int) == 1 && (its.size-0) == its.size)=true then _ else _) _ _ s;rw[if_pos hy];refine wpAny_bind (m:=Builtin.Tuple.tupleIsExact _) ?_;unfold Builtin.Tuple.tupleIsExact;refine wpAny_bind (wpAny_typeOf ht.typeIs (wpAny_pure ?_));rw[if_pos (by decide)]
 first
  |exact wpAny_bind (wpAny_rule (wpAny_pure ⟨_,rfl,wpAny_pure h⟩))
  |exact wpAny_bind (wpAny_rule (wpAny_bind (wpAny_pure (wpAny_pure ⟨_,rfl,wpAny_pure h⟩))))
  |exact wpAny_bind (wpAny_rule (wpAny_bind (wpAny_pure ⟨_,rfl,wpAny_pure h⟩)))
end
inductive Kn(H:Hp):V->Prop
 |non:Kn H .non
 |bl (b:Bool):Kn H (.bl b)
 |int (i:Int):Kn H (.int i)
 |str (x:Str):Kn H (.str x)
 |lst {a:Addr}{xs:List V} (e:H a=some (.lst xs)):Kn H (.ref a)
 |tup {a:Addr}{xs:List V} (e:H a=some (.tup xs)):Kn H (.ref a)
 |dct {a:Addr}{ks:List (Key×V)} (e:H a=some (.dK ks)):Kn H (.ref a)
def vv(H:Hp):V->Option (List V)
 |.ref a=>match H a with|some (.tup xs)=>some xs|_=>none
 |_=>none
theorem zek{H:Hp}{a:Addr}{xs:List V}(e:H a=some (.tup xs)):vv H (.ref a)=some xs:=by unfold vv;simp only[e]
def Th:Nat->Hp->V->Prop
 |0,H,x=>Kn H x
 |n+1,H,x=>Kn H x/\∀xs,vv H x=some xs->∀y∈xs,Th n H y
theorem Th.tup{n:Nat}{H:Hp}{a:Addr}{xs:List V}(e:H a=some (.tup xs))(h:∀y∈xs,Th n H y):Th (n+1) H (.ref a) :=
 ⟨.tup e,λys e' y hy=>by rw[zek e]at e';cases e';exact h y hy⟩
theorem Th.flat{n:Nat}{H:Hp}{x:V}(h:Kn H x)(e:vv H x=none):Th n H x:=by
 cases n with
 |zero=>exact h
 |succ n=>exact⟨h,λxs e'=>by rw[e]at e';cases e'⟩
theorem Th.int(n:Nat)(H:Hp)(i:Int):Th n H (.int i):=Th.flat (.int i) rfl
theorem Th.bl(n:Nat)(H:Hp)(b:Bool):Th n H (.bl b):=Th.flat (.bl b) rfl
theorem Th.str(n:Nat)(H:Hp)(x:Str):Th n H (.str x):=Th.flat (.str x) rfl
theorem Th.non(n:Nat)(H:Hp):Th n H .non:=Th.flat .non rfl
theorem Th.lst(n:Nat){H:Hp}{a:Addr}{xs:List V}(e:H a=some (.lst xs)):Th n H (.ref a):=Th.flat (.lst e) (by unfold vv;simp only[e])
theorem Th.dct(n:Nat){H:Hp}{a:Addr}{ks:List (Key×V)}(e:H a=some (.dK ks)):Th n H (.ref a):=Th.flat (.dct e) (by unfold vv;simp only[e])
def inB(lo hi:Int):V->Bool
 |.int i=>decide (lo<=i) && decide (i<=hi)
 |_=>false
def zuz:List (Int×Int)->List V->Bool
 |[],[]=>true
 |b::bs,x::xs=>inB b.1 b.2 x && zuz bs xs
 |_,_=>false
def whB(bs:List (Int×Int)):Option (List V)->Bool
 |some xs=>zuz bs xs
 |none=>false
theorem Same.seqT{K:PySem.W.Frag}{H H':Hp}{a:Addr}{xs:List V}(e:Same H H')(h:SqT K H a xs):SqT K H' a xs:=by
 rcases h with(h |⟨o,h⟩)|h
 ·exact .inl (.inl (e _ _ h))
 ·exact .inl (.inr ⟨o,e _ _ h⟩)
 ·exact .inr h
theorem Kn.butL{H H':Hp}{p:Addr}{a b:List V}{x:V}(h1:H p=some (.lst a))(h2:H' p=some (.lst b))(s:But p H H')(h:Kn H x):Kn H' x:=by
 cases h with
 |non=>exact .non
 |bl b=>exact .bl b
 |int i=>exact .int i
 |str x=>exact .str x
 |@lst c xs e=>
  by_cases hc:c=p
  ·subst hc;exact .lst h2
  ·exact .lst (s _ _ hc e)
 |tup e=>exact .tup (s _ _ (zgf e h1 (by intro z;cases z)) e)
 |dct e=>exact .dct (s _ _ (zgf e h1 (by intro z;cases z)) e)
theorem zcu{H H':Hp}{p:Addr}{a b:List V}{x:V}(h1:H p=some (.lst a))(h2:H' p=some (.lst b))(s:But p H H')(h:Kn H x):vv H' x=vv H x:=by
 cases h with
 |@lst c xs e=>
  by_cases hc:c=p
  ·subst hc;unfold vv;simp only[e,h2]
  ·unfold vv;simp only[e,s _ _ hc e]
 |tup e=>have:=s _ _ (zgf e h1 (by intro z;cases z)) e;unfold vv;simp only[e,this]
 |dct e=>have:=s _ _ (zgf e h1 (by intro z;cases z)) e;unfold vv;simp only[e,this]
 |_=>rfl
theorem Th.butL:∀{n:Nat}{H H':Hp}{p:Addr}{a b:List V}{x:V},H p=some (.lst a)->H' p=some (.lst b)->But p H H'->Th n H x->Th n H' x
 |0,_,_,_,_,_,_,h1,h2,s,h=>Kn.butL h1 h2 s h
 |n+1,_,_,_,_,_,_,h1,h2,s,h=>⟨h.1.butL h1 h2 s,λxs e y hy=>Th.butL h1 h2 s (h.2 xs ((zcu h1 h2 s h.1).symm.trans e) y hy)⟩
theorem Th.pen{n:Nat}{H H':Hp}{p:Addr}{x:V}(h1:Pen H p)(h2:Pen H' p)(s:But p H H')(h:Th n H x):Th n H' x:=by
 obtain⟨a,b,c,e⟩:=h1;obtain⟨a',b',c',e'⟩:=h2;exact Th.butL e e' s h
theorem zmz{α:Type}{xs:List α}{k:Int}(h0:0<=k)(h1:k<xs.length):∃v,atI xs k=some v/\v∈xs:=by
 obtain⟨v,h,e⟩:=zmw h0 h1;exact⟨v,h,List.mem_of_getElem? e⟩
theorem zm0{K:PySem.W.Frag}{H:Hp}{a:Addr}{its:Array Value}{n:Nat}{sl:Array (Option Value)}{xs:List V}(l:K.lookup a=some ⟨.type "tuple",none,.seq its n,sl⟩)(hz:its.size<=10000)(r:Vals xs its.toList):SqT K H a xs:=.inr ⟨_,its,n,l,rfl,rfl,rfl,zsa hz,r⟩
def zu0(i j k:Nat)(ta:TA):TS:=λD σ H=>ta σ H λvs H1=>∃u v w,vs = [u,v,w]/\D.nx (((σ.set i (some u)).set j (some v)).set k (some w)) H1
theorem zpe{X:Cx}{i j k:Nat}{x y z:Str}{a b c:Expr}{ta:TA}{px py pz pt pos:Pos}{kt k2 pt2}(hc:X.calm=true)(hN:X.N.Nodup)(hi:X.N[i]?=some x)(hj:X.N[j]?=some y)(hk:X.N[k]?=some z)(hij:i≠j)(hik:i≠k)(hjk:j≠k)
  (hx:X.env.scope.names.lookup x=some .local) (hy:X.env.scope.names.lookup y=some .local) (hz:X.env.scope.names.lookup z=some .local) (ha:PA X [a,b,c] ta)
  (hw:swappedStores [.Tuple [.Name x px,.Name y py,.Name z pz] kt pt] (.Tuple [a,b,c] k2 pt2) X.env=pure (some [x,y,z]))
  (hs:swapsWithSole [.Tuple [.Name x px,.Name y py,.Name z pz] kt pt] (.Tuple [a,b,c] k2 pt2) pos.line X.env=pure false:=by rfl) :
  PS X (.Assign [.Tuple [.Name x px,.Name y py,.Name z pz] kt pt] (.Tuple [a,b,c] k2 pt2) pos) (zu0 i j k ta):=by
 intro pins s σ H D I h;rw[exec_Assign_arm];refine wpAny_bind (wpAny_standAt ?_);rw[hs];refine wpAny_bind (wpAny_pure ?_);rw[if_neg (by decide)];refine wpAny_bind (Tuple_ (thn (ha _ pins s σ H _ I h) λus s1 zr86=>?_));obtain⟨vs,H1,I1,r1,q1⟩:=zr86;obtain⟨v1,v2,v3,e1,q1⟩:=q1;subst e1;obtain⟨u1,u2,u3,rfl,r1,r2,r3⟩:∃u1 u2 u3,us = [u1,u2,u3]/\RelV v1 u1/\RelV v2 u2/\RelV v3 u3:=by
  cases r1 with
  |cons p q=>
   cases q with
   |cons p' q'=>
    cases q' with
    |cons p'' q''=>
     cases q'';exact⟨_,_,_,rfl,p,p',p''⟩
 refine wpAny_newObj_type ?_ (by show 3<=sizeLine;decide);have I2:Inv X pins σ H1 { s1 with heap:=s1.heap.push { cls:=.type "tuple",data:=.seq [u1,u2,u3].toArray } }:=I1.kept (t':=s1.toks) λb o e=>Heap.get?_push_of_some _ e;rw[hw];refine wpAny_bind (wpAny_pure ?_);show wpAny (model X.prog X.w) X.A (do rule "assign.swapped-stores";let items <-unpackItems (.ref s1.heap.objs.size) 3 none;assignInOrder [λv=>bindName X.env z v,λv=>bindName X.env y v,λv=>bindName X.env x v] items.reverse;pure Flow.next) _ _ _;refine wpAny_bind (wpAny_rule (wpAny_bind (unpackItems_tuple (items:=#[u1,u2,u3]) (I.ok.hd hc) (IsTup.new s1.heap _) λh' hx'=>?_)));have I3:=I2.kept (h':=h') (t':=s1.toks) λb o e=>hx' b o (Nat.ne_of_lt (Heap.lt_size e)) e;show wpAny _ _ (assignInOrder [λv=>bindName X.env z v,λv=>bindName X.env y v,λv=>bindName X.env x v] [u3,u2,u1] >>= λ_=>pure Flow.next) _ _ _;refine wpAny_bind (assignInOrder_cons (wpAny_bindName (v5 I3 hN hk (.inl hz) r3 (λs2 I4=>?_) (.inr hz))));refine assignInOrder_cons (wpAny_bindName (v5 I4 hN hj (.inl hy) r2 (λs3 I5=>?_) (.inr hy)));refine assignInOrder_cons (wpAny_bindName (v5 I5 hN hi (.inl hx) r1 (λs4 I6=>assignInOrder_nil (wpAny_pure ?_)) (.inr hx)));have e:(((σ.set k (some v3)).set j (some v2)).set i (some v1))=(((σ.set i (some v1)).set j (some v2)).set k (some v3)):=by
  rw[List.set_comm _ _ (Ne.symm hjk),List.set_comm _ _ (Ne.symm hik),List.set_comm _ _ (Ne.symm hij)]
 rw[e]at I6;exact⟨_,H1,I6,q1⟩
theorem zk6{X:Cx}:OpR X (compareOp .IsNot) (λx y H Q=>∃a b,x=.bl a/\y=.bl b/\Q (.bl (!decide (a=b))) H):=by
 intro pins s σ H x y v u Q I rx ry h;obtain⟨a,b,rfl,rfl,q⟩:=h
 cases rx
 cases ry
 cases a <;> cases b <;> exact wpAny_pure (yq I q rfl)
def NoD(H:Hp)(x:V):Prop:=∀a,x=.ref a->(∃xs,H a=some (.lst xs))\/∃xs,H a=some (.tup xs)
end L2
namespace L2
end L2
namespace L2
open PySem
theorem zu1{es:List Expr}{x1}{pos:Pos}{rest:List Expr}{env:Env}:starEach (.Tuple es x1 pos::rest) env=(false,eval (.Tuple es x1 pos) env)::starEach rest env:=by rw[starEach];intro e p h;cases h
theorem zwd{es:List Expr}{pos:Pos}{rest:List Expr}{env:Env}:starEach (.List es pos::rest) env=(false,eval (.List es pos) env)::starEach rest env:=by rw[starEach];intro e p h;cases h
theorem ko{c j}{pos:Pos}{rest:List Expr}{env:Env}:starEach (.Constant c j pos::rest) env=(false,eval (.Constant c j pos) env)::starEach rest env:=by rw[starEach];intro e p h;cases h
end L2
namespace L2
open PySem PySem.Spec PyProof.Rows
end L2
namespace L2
open PySem
theorem zu2{X:Cx}{e:Expr}{t:TT}(h:PW X e t):PT X e t:=h.pt
end L2
namespace L2
open PySem PySem.Spec PyProof.Rows
theorem NoD.butL{H H':Hp}{p:Addr}{a b:List V}{x:V}(h1:H p=some (.lst a))(h2:H' p=some (.lst b))(s:But p H H')(h:NoD H x):NoD H' x:=λc e=>by
 by_cases hc:c=p
 ·subst hc;exact .inl ⟨b,h2⟩
 ·rcases h c e with⟨xs,q⟩ |⟨xs,q⟩
  ·exact .inl ⟨xs,s _ _ hc q⟩
  ·exact .inr ⟨xs,s _ _ hc q⟩
def Ts:Nat->Hp->V->Prop
 |0,H,x=>Kn H x/\NoD H x
 |n+1,H,x=>Kn H x/\∀xs,vv H x=some xs->∀y∈xs,Ts n H y
theorem Ts.butL:∀{n:Nat}{H H':Hp}{p:Addr}{a b:List V}{x:V},H p=some (.lst a)->H' p=some (.lst b)->But p H H'->Ts n H x->Ts n H' x
 |0,_,_,_,_,_,_,h1,h2,s,h=>⟨h.1.butL h1 h2 s,h.2.butL h1 h2 s⟩
 |n+1,_,_,_,_,_,_,h1,h2,s,h=>⟨h.1.butL h1 h2 s,λxs e y hy=>Ts.butL h1 h2 s (h.2 xs ((zcu h1 h2 s h.1).symm.trans e) y hy)⟩
theorem Ts.pen{n:Nat}{H H':Hp}{p:Addr}{x:V}(h1:Pen H p)(h2:Pen H' p)(s:But p H H')(h:Ts n H x):Ts n H' x:=by
 obtain⟨a,b,c,e⟩:=h1;obtain⟨a',b',c',e'⟩:=h2;exact Ts.butL e e' s h
theorem Ts.tup{n:Nat}{H:Hp}{a:Addr}{xs:List V}(e:H a=some (.tup xs))(h:∀y∈xs,Ts n H y):Ts (n+1) H (.ref a) :=
 ⟨.tup e,λys e' y hy=>by rw[zek e]at e';cases e';exact h y hy⟩
theorem Ts.flat{n:Nat}{H:Hp}{x:V}(h:Kn H x)(e:vv H x=none)(d:NoD H x):Ts n H x:=by
 cases n with
 |zero=>exact⟨h,d⟩
 |succ n=>exact⟨h,λxs e'=>by rw[e]at e';cases e'⟩
theorem Ts.int(n:Nat)(H:Hp)(i:Int):Ts n H (.int i):=Ts.flat (.int i) rfl (λ_ z=>by cases z)
theorem Ts.bl(n:Nat)(H:Hp)(b:Bool):Ts n H (.bl b):=Ts.flat (.bl b) rfl (λ_ z=>by cases z)
theorem Ts.str(n:Nat)(H:Hp)(x:Str):Ts n H (.str x):=Ts.flat (.str x) rfl (λ_ z=>by cases z)
theorem Ts.non(n:Nat)(H:Hp):Ts n H .non:=Ts.flat .non rfl (λ_ z=>by cases z)
theorem Ts.lst(n:Nat){H:Hp}{a:Addr}{xs:List V}(e:H a=some (.lst xs)):Ts n H (.ref a):=Ts.flat (.lst e) (by unfold vv;simp only[e]) (λc z=>by cases z;exact .inl ⟨xs,e⟩)
theorem Ts.dct(n:Nat){H:Hp}{a:Addr}{ks:List (Key×V)}(e:H a=some (.dK ks)):Ts (n+1) H (.ref a):=⟨.dct e,λxs e'=>by unfold vv at e';simp only[e]at e';cases e'⟩
open AutoSeq1 (wpAny_loadPart')
section
variable {X:Cx}
end
end L2
namespace L2
end L2
namespace L2
open PySem PySem.Spec PyProof.Rows
section
variable {X:Cx}{a b c d:Expr}{ta tb tc td:TE}{pos:Pos}
end
abbrev D:=PyData
def kD:Key->D
 |.inl i=>.int i
 |.inr x=>.str x
def zbi(a:Addr):HO:=.ext λh=>∃(x y z:Int) (tx ty tz:Tok) (n:Nat),h.get? a=some { cls:=.type "list",data:=.seq #[.int x tx,.int y ty,.int z tz] n }
def HO.per:HO->Bool
 |.tup _=>true
 |.frz _ _=>true
 |.ext _=>true
 |_=>false
def Pers(H H':Hp):Prop:=∀a o,H a=some o->o.per=true->H' a=some o
theorem Pers.refl(H:Hp):Pers H H:=λ_ _ h _=>h
theorem Pers.trans{H H1 H2:Hp}(a:Pers H H1)(b:Pers H1 H2):Pers H H2:=λc o h p=>b c o (a c o h p) p
theorem Same.pers{H H':Hp}(s:Same H H'):Pers H H':=λa o h _=>s a o h
theorem Pers.sqT{K:PySem.W.Frag}{H H':Hp}{a:Addr}{xs:List V}(p:Pers H H')(h:SqT K H a xs):SqT K H' a xs:=by
 rcases h with(h |⟨o,h⟩)|h
 ·exact .inl (.inl (p _ _ h rfl))
 ·exact .inl (.inr ⟨o,p _ _ h rfl⟩)
 ·exact .inr h
section
variable (K:PySem.W.Frag)
mutual
inductive Rep(H:Hp):D->V->Prop
 |non:Rep H .none .non
 |bl {b:Bool}:Rep H (.bool b) (.bl b)
 |int {i:Int}:Rep H (.int i) (.int i)
 |str {x:Str}:Rep H (.str x) (.str x)
 |tup {xs:List D}{a:Addr}{vs:List V} (h:SqT K H a vs) (r:Reps H xs vs):Rep H (.tuple xs) (.ref a)
 |lst {xs:List D}{a:Addr}{vs:List V}{o:Obj} (h:H a=some (.frz o (.lst vs))) (r:Reps H xs vs):Rep H (.list xs) (.ref a)
 |dic {kvs:List (D×D)}{a:Addr}{kws:List (Key×V)}{o:Obj} (h:H a=some (.frz o (.dK kws))) (r:RepK H kvs kws):Rep H (.dict kvs) (.ref a)
inductive Reps(H:Hp):List D->List V->Prop
 |nil:Reps H [] []
 |cons {d:D}{v:V}{ds:List D}{vs:List V} (r:Rep H d v) (t:Reps H ds vs):Reps H (d::ds) (v::vs)
inductive RepK(H:Hp):List (D×D)->List (Key×V)->Prop
 |nil:RepK H [] []
 |cons {k:Key}{d:D}{v:V}{ds:List (D×D)}{vs:List (Key×V)} (r:Rep H d v) (t:RepK H ds vs):RepK H ((kD k,d)::ds) ((k,v)::vs)
end
end
section
variable {K:PySem.W.Frag}{H H':Hp}
theorem Rep.mono(p:Pers H H'){d:D}{v:V}(h:Rep K H d v):Rep K H' d v :=
 Rep.rec (motive_1:=λd v _=>Rep K H' d v) (motive_2:=λds vs _=>Reps K H' ds vs) (motive_3:=λds vs _=>RepK K H' ds vs) .non .bl .int .str (λh _ i=>.tup (p.sqT h) i) (λh _ i=>.lst (p _ _ h rfl) i) (λh _ i=>.dic (p _ _ h rfl) i) .nil (λ_ _ i j=>.cons i j) .nil (λ_ _ i j=>.cons i j) h
theorem Reps.ind{P:List D->List V->Prop}(n:P [] [])(c:∀d v ds vs,Rep K H d v->Reps K H ds vs->P ds vs->P (d::ds) (v::vs)){ds:List D}{vs:List V}(h:Reps K H ds vs):P ds vs :=
 Reps.rec (motive_1:=λ_ _ _=>True) (motive_2:=λds vs _=>P ds vs) (motive_3:=λ_ _ _=>True) trivial trivial trivial trivial (λ_ _ _=>trivial) (λ_ _ _=>trivial) (λ_ _ _=>trivial) n (λr t _ j=>c _ _ _ _ r t j) trivial (λ_ _ _ _=>trivial) h
theorem Reps.mono(p:Pers H H'){ds:List D}{vs:List V}(h:Reps K H ds vs):Reps K H' ds vs:=h.ind .nil λ_ _ _ _ r _ j=>.cons (r.mono p) j
theorem RepK.mono(p:Pers H H'){ds:List (D×D)}{vs:List (Key×V)}(h:RepK K H ds vs):RepK K H' ds vs :=
 RepK.rec (motive_1:=λ_ _ _=>True) (motive_2:=λ_ _ _=>True) (motive_3:=λds vs _=>RepK K H' ds vs) trivial trivial trivial trivial (λ_ _ _=>trivial) (λ_ _ _=>trivial) (λ_ _ _=>trivial) trivial (λ_ _ _ _=>trivial) .nil (λr _ _ j=>.cons (r.mono p) j) h
theorem Reps.length{ds:List D}{vs:List V}(h:Reps K H ds vs):ds.length=vs.length:=h.ind (P:=λds vs=>ds.length=vs.length) rfl λ_ _ _ _ _ _ j=>congrArg (·+1) j
theorem Reps.append{ds es:List D}{vs ws:List V}(h:Reps K H ds vs)(s:Reps K H es ws):Reps K H (ds++es) (vs++ws):=h.ind (P:=λds vs=>Reps K H (ds++es) (vs++ws)) s λ_ _ _ _ r _ j=>.cons r j
theorem Reps.get{ds:List D}{vs:List V}{i:Nat}{d:D}(h:Reps K H ds vs):ds[i]?=some d->∃v,vs[i]?=some v/\Rep K H d v :=
 h.ind (P:=λds vs=>∀i:Nat,ds[i]?=some d->∃v,vs[i]?=some v/\Rep K H d v) (λ_ e=>nomatch e) (λd' v ds vs r _ j i e=>by
  cases i with
  |zero=>cases e;exact⟨v,rfl,r⟩
  |succ i=>exact j i e) i
theorem Reps.get'{ds:List D}{vs:List V}{i:Nat}{v:V}(h:Reps K H ds vs):vs[i]?=some v->∃d,ds[i]?=some d/\Rep K H d v :=
 h.ind (P:=λds vs=>∀i:Nat,vs[i]?=some v->∃d,ds[i]?=some d/\Rep K H d v) (λ_ e=>nomatch e) (λd v' ds vs r _ j i e=>by
  cases i with
  |zero=>cases e;exact⟨d,rfl,r⟩
  |succ i=>exact j i e) i
theorem Reps.take{ds:List D}{vs:List V}(n:Nat)(h:Reps K H ds vs):Reps K H (ds.take n) (vs.take n) :=
 h.ind (P:=λds vs=>∀n:Nat,Reps K H (ds.take n) (vs.take n)) (λn=>by rw[List.take_nil,List.take_nil];exact .nil) (λ_ _ _ _ r _ j n=>by
  cases n with
  |zero=>exact .nil
  |succ n=>exact .cons r (j n)) n
theorem Reps.drop{ds:List D}{vs:List V}(n:Nat)(h:Reps K H ds vs):Reps K H (ds.drop n) (vs.drop n) :=
 h.ind (P:=λds vs=>∀n:Nat,Reps K H (ds.drop n) (vs.drop n)) (λn=>by rw[List.drop_nil,List.drop_nil];exact .nil) (λ_ _ _ _ r t j n=>by
  cases n with
  |zero=>exact .cons r t
  |succ n=>exact j n) n
theorem Reps.set{d:D}{v:V}(r:Rep K H d v){ds:List D}{vs:List V}(i:Nat)(h:Reps K H ds vs):Reps K H (ds.set i d) (vs.set i v) :=
 h.ind (P:=λds vs=>∀i:Nat,Reps K H (ds.set i d) (vs.set i v)) (λ_=>.nil) (λ_ _ _ _ q t j i=>by
  cases i with
  |zero=>exact .cons r t
  |succ i=>exact .cons q (j i)) i
theorem Reps.reverse{ds:List D}{vs:List V}(h:Reps K H ds vs):Reps K H ds.reverse vs.reverse:=by
 induction ds generalizing vs with
 |nil=>cases h;exact .nil
 |cons d ds ih=>
  cases h with
  |cons r t=>rw[List.reverse_cons,List.reverse_cons];exact(ih t).append (.cons r .nil)
theorem Reps.rep{ds:List D}{vs:List V}(h:Reps K H ds vs):∀k:Nat,Reps K H (List.replicate k ds).flatten (List.replicate k vs).flatten
 |0=>.nil
 |k+1=>by
  rw[List.replicate_succ,List.replicate_succ,List.flatten_cons,List.flatten_cons];exact h.append (h.rep k)
theorem Reps.eraseIdx{ds:List D}{vs:List V}(i:Nat)(h:Reps K H ds vs):Reps K H (ds.eraseIdx i) (vs.eraseIdx i) :=
 h.ind (P:=λds vs=>∀i:Nat,Reps K H (ds.eraseIdx i) (vs.eraseIdx i)) (λ_=>.nil) (λ_ _ _ _ q t j i=>by
  cases i with
  |zero=>exact t
  |succ i=>exact .cons q (j i)) i
theorem Reps.ints:∀{ns:List Int},Reps K H (ns.map PyData.int) (ns.map V.int)
 |[]=>.nil
 |_::_=>.cons .int Reps.ints
theorem Reps.of_ints{ns:List Int}{vs:List V}(h:Reps K H (ns.map PyData.int) vs):vs=ns.map V.int:=by
 induction ns generalizing vs with
 |nil=>cases h;rfl
 |cons n ns ih=>
  cases h with
  |cons r t=>cases r;rw[ih t];rfl
theorem Reps.same(s:Same H H'){ds:List D}{vs:List V}(r:Reps K H ds vs):Reps K H' ds vs:=r.mono s.pers
theorem Rep.same(s:Same H H'){d:D}{v:V}(r:Rep K H d v):Rep K H' d v:=r.mono s.pers
end
section
variable (K:PySem.W.Frag)
mutual
inductive RepN(H:Hp):D->V->Prop
 |non:RepN H .none .non
 |bl {b:Bool}:RepN H (.bool b) (.bl b)
 |int {i:Int}:RepN H (.int i) (.int i)
 |str {x:Str}:RepN H (.str x) (.str x)
 |tup {xs:List D}{a:Addr}{vs:List V} (h:SqT K H a vs) (r:RepNs H xs vs):RepN H (.tuple xs) (.ref a)
 |lst {xs:List D}{a:Addr}{vs:List V} (h:Rd H a (.lst vs)) (r:RepNs H xs vs):RepN H (.list xs) (.ref a)
inductive RepNs(H:Hp):List D->List V->Prop
 |nil:RepNs H [] []
 |cons {d:D}{v:V}{ds:List D}{vs:List V} (r:RepN H d v) (t:RepNs H ds vs):RepNs H (d::ds) (v::vs)
end
end
section
variable {K:PySem.W.Frag}{H H':Hp}
theorem Same.rd(s:Same H H'){a:Addr}{u:HO}(h:Rd H a u):Rd H' a u:=by
 rcases h with h |⟨o,h⟩
 ·exact .inl (s _ _ h)
 ·exact .inr ⟨o,s _ _ h⟩
theorem RepN.gen(ht:∀{a vs},SqT K H a vs->SqT K H' a vs)(hl:∀{a vs},Rd H a (.lst vs)->Rd H' a (.lst vs)){d:D}{v:V}(h:RepN K H d v):RepN K H' d v :=
 RepN.rec (motive_1:=λd v _=>RepN K H' d v) (motive_2:=λds vs _=>RepNs K H' ds vs) .non .bl .int .str (λh _ i=>.tup (ht h) i) (λh _ i=>.lst (hl h) i) .nil (λ_ _ i j=>.cons i j) h
theorem RepNs.ind{P:List D->List V->Prop}(n:P [] [])(c:∀d v ds vs,RepN K H d v->RepNs K H ds vs->P ds vs->P (d::ds) (v::vs)){ds:List D}{vs:List V}(h:RepNs K H ds vs):P ds vs :=
 RepNs.rec (motive_1:=λ_ _ _=>True) (motive_2:=λds vs _=>P ds vs) trivial trivial trivial trivial (λ_ _ _=>trivial) (λ_ _ _=>trivial) n (λr t _ j=>c _ _ _ _ r t j) h
theorem RepNs.gen(ht:∀{a vs},SqT K H a vs->SqT K H' a vs)(hl:∀{a vs},Rd H a (.lst vs)->Rd H' a (.lst vs)){ds:List D}{vs:List V}(h:RepNs K H ds vs):RepNs K H' ds vs:=h.ind .nil λ_ _ _ _ r _ j=>.cons (r.gen ht hl) j
theorem RepN.same(s:Same H H'){d:D}{v:V}(h:RepN K H d v):RepN K H' d v:=h.gen (λh=>s.pers.sqT h) (λh=>s.rd h)
theorem RepN.frz{a:Addr}{vs:List V}{o:Obj}(e:H a=some (.lst vs)){d:D}{v:V}(h:RepN K H d v):RepN K (upd H a (.frz o (.lst vs))) d v:=by
 have ne:∀{b:Addr}{u:HO},H b=some u->u ≠ .lst vs->b≠a:=λ{b u} h n z=>by rw[z,e]at h;cases h;exact n rfl
 refine h.gen (λ{b ws} h=>?_) (λ{b ws} h=>?_)
 ·rcases h with(h |⟨o,h⟩)|h
  ·exact .inl (.inl (by rw[zn (ne h (by intro z;cases z))];exact h))
  ·exact .inl (.inr ⟨o,by rw[zn (ne h (by intro z;cases z))];exact h⟩)
  ·exact .inr h
 ·rcases h with h |⟨o',h⟩
  ·by_cases z:b=a
   ·subst z;rw[e]at h
    cases h;exact .inr ⟨_,zp⟩
   ·exact .inl (by rw[zn z];exact h)
  ·exact .inr ⟨o',by rw[zn (ne h (by intro z;cases z))];exact h⟩
end
inductive Mx where
 |v (d:D)|l (xs:List D)
inductive O where
 |lst (xs:List D)
 |dct (kvs:List (Key×D))
 |nst (xss:List (List D)) (ds:List D)
 |anc (a:Addr) (o:O)
 |ins (c:Str) (fs:List (Str×D))
 |mix (ms:List Mx)
 |tk (ks:List Key)
 |dcT (kvs:List (List Key×D))
inductive W where
 |val (d:D)|vw (xs:List D)|vd (xs:List (Key×D))|exc (x:Str×List (Str×Int))|scr (ns:List Int)|pen|tmp (d:D)|own (o:O)
abbrev DSt:=List (Option W)
def zsb:Option W->Option W
 |some (.tmp _)=>none
 |w=>w
def clr(σ:DSt):DSt:=σ.map zsb
section
variable (K:PySem.W.Frag)
def RepL(H:Hp)(xs:List D)(v:V):Prop:=∃a vs,v=.ref a/\Rd H a (.lst vs)/\Reps K H xs vs
def RepT(H:Hp)(d:D)(v:V):Prop:=Rep K H d v\/∃xs,d=.list xs/\RepL K H xs v
def RepKV{κ:Type}(K:PySem.W.Frag)(H:Hp)(ks:List (κ×D))(vs:List (κ×V)):Prop:=ks.map (·.1)=vs.map (·.1)/\Reps K H (ks.map (·.2)) (vs.map (·.2))
def Nst(H:Hp):List (List D)->List Addr->Prop
 |[],[]=>True
 |xs::xss,b::bs=>(∃vs,H b=some (.lst vs)/\Reps K H xs vs)/\Nst H xss bs
 |_,_=>False
def MxR(H:Hp):List Mx->List V->List Addr->Prop
 |[],[],[]=>True
 |.v d::ms,u::us,bs=>Rep K H d u/\MxR H ms us bs
 |.l xs::ms,u::us,b::bs=>u=.ref b/\(∃vs,H b=some (.lst vs)/\Reps K H xs vs)/\MxR H ms us bs
 |_,_,_=>False
def RepO(H:Hp):O->V->List Addr->Prop
 |.mix ms,v,fp=>∃a us bs,v=.ref a/\fp=a::bs/\H a=some (.lst us)/\MxR K H ms us bs
 |.lst xs,v,fp=>∃a vs,v=.ref a/\fp = [a]/\H a=some (.lst vs)/\Reps K H xs vs
 |.dct ks,v,fp=>∃a vs,v=.ref a/\fp = [a]/\H a=some (.dK vs)/\RepKV K H ks vs
 |.nst xss ds,v,fp=>∃a as us,v=.ref a/\fp=a::as/\H a=some (.lst (as.map V.ref++us))/\Nst K H xss as/\Reps K H ds us
 |.tk ks,v,fp=>∃a,v=.ref a/\fp = []/\H a=some (.tup (ks.map kV))
 |.dcT ks,v,fp=>∃a vs,v=.ref a/\fp = [a]/\H a=some (.dT vs)/\RepKV K H ks vs
 |.anc a o,v,fp=>v=.ref a/\RepO H o v fp
 |.ins c fs,v,fp=>∃a dx C fv,v=.ref a/\fp = [a,dx]/\PySem.W.nsIn K mainGlobals c=some (some (.ref C))/\H a=some (.ins C dx fv)/\H dx=some (.own a)/\fv.map (·.1)=fs.map (·.1)/\Reps K H (fs.map (·.2)) (fv.map (·.2))
def RepD(H:Hp)(xs:List (Key×D))(v:V):Prop:=∃a vs,v=.ref a/\H a=some (.dK vs)/\RepKV K H xs vs
def zwe(C:Addr)(od:Option Addr)(a:Addr):HO:=.ext λh=>∃oe,h.get? a=some oe/\oe.cls=.ref C/\oe.dict=od/\∃vs,oe.data=.fields vs
def RepX(H:Hp)(x:Str×List (Str×Int))(v:V):Prop:=∃a C od,v=.ref a/\PySem.W.nsIn K mainGlobals x.1=some (some (.ref C))/\H a=some (zwe C od a)/\((x.2 = []/\od=none)\/∃d,od=some d/\H d=some (.xd (x.2.map λp=>(p.1,V.int p.2))))
inductive Slots(H₀ H:Hp):DSt->St->List Addr->Prop
 |nil:Slots H₀ H [] [] []
 |none {v:Option V}{ws:DSt}{vs:St}{fp:List Addr} (t:Slots H₀ H ws vs fp):Slots H₀ H (Option.none::ws) (v::vs) fp
 |val {d:D}{v:V}{ws:DSt}{vs:St}{fp:List Addr} (r:Rep K H d v) (t:Slots H₀ H ws vs fp):Slots H₀ H (some (.val d)::ws) (some v::vs) fp
 |vw {xs:List D}{v:V}{ws:DSt}{vs:St}{fp:List Addr} (r:RepL K H₀ xs v) (t:Slots H₀ H ws vs fp):Slots H₀ H (some (.vw xs)::ws) (some v::vs) fp
 |vd {xs:List (Key×D)}{v:V}{ws:DSt}{vs:St}{fp:List Addr} (r:RepD K H₀ xs v) (t:Slots H₀ H ws vs fp):Slots H₀ H (some (.vd xs)::ws) (some v::vs) fp
 |exc {xs:Str×List (Str×Int)}{v:V}{ws:DSt}{vs:St}{fp:List Addr} (r:RepX K H₀ xs v) (t:Slots H₀ H ws vs fp):Slots H₀ H (some (.exc xs)::ws) (some v::vs) fp
 |scr {ns:List Int}{a:Addr}{ws:DSt}{vs:St}{fp:List Addr} (r:SqL K H₀ a (ns.map V.int)) (t:Slots H₀ H ws vs fp):Slots H₀ H (some (.scr ns)::ws) (some (.ref a)::vs) fp
 |pen {a:Addr}{ws:DSt}{vs:St}{fp:List Addr} (r:H a=some (zbi a)) (t:Slots H₀ H ws vs fp):Slots H₀ H (some .pen::ws) (some (.ref a)::vs) fp
 |tmp {d:D}{v:V}{ws:DSt}{vs:St}{fp:List Addr} (r:RepN K H d v) (t:Slots H₀ H ws vs fp):Slots H₀ H (some (.tmp d)::ws) (some v::vs) fp
 |own {o:O}{v:V}{f:List Addr}{ws:DSt}{vs:St}{fp:List Addr} (r:RepO K H o v f) (t:Slots H₀ H ws vs fp):Slots H₀ H (some (.own o)::ws) (some v::vs) (f++fp)
structure DOk(H₀ H:Hp)(σD:DSt)(σ:St):Prop where
 same:Same H₀ H
 slots:∃fp,Slots K H₀ H σD σ fp/\fp.Nodup/\∀a∈fp,H₀ a=none
end
section
variable {K:PySem.W.Frag}{H₀ H H':Hp}{σD:DSt}{σ:St}
theorem RepX.same(s:Same H H'){xs:Str×List (Str×Int)}{v:V}:RepX K H xs v->RepX K H' xs v:=by
 rintro ⟨a,C,od,rfl,n,h,r⟩;refine⟨a,C,od,rfl,n,s _ _ h,?_⟩;rcases r with r |⟨d,e,r⟩
 ·exact .inl r
 ·exact .inr ⟨d,e,s _ _ r⟩
theorem RepD.same(s:Same H H'){xs:List (Key×D)}{v:V}:RepD K H xs v->RepD K H' xs v:=by
 rintro ⟨a,vs,rfl,h,r⟩;exact⟨a,vs,rfl,s _ _ h,r.1,r.2.same s⟩
theorem RepL.same(s:Same H H'){xs:List D}{v:V}:RepL K H xs v->RepL K H' xs v:=by
 rintro ⟨a,vs,rfl,h,r⟩;refine⟨a,vs,rfl,?_,r.same s⟩;rcases h with h |⟨o,h⟩
 ·exact .inl (s _ _ h)
 ·exact .inr ⟨o,s _ _ h⟩
theorem RepT.same(s:Same H H'){d:D}{v:V}:RepT K H d v->RepT K H' d v
 |.inl h=>.inl (h.same s)
 |.inr ⟨xs,e,h⟩=>.inr ⟨xs,e,h.same s⟩
theorem Rep.top{d:D}{v:V}(h:Rep K H d v):RepT K H d v:=.inl h
theorem RepT.list{xs:List D}{v:V}(h:RepT K H (.list xs) v):RepL K H xs v:=by
 rcases h with h |⟨ys,e,h⟩
 ·cases h with
  |lst h r=>exact⟨_,_,rfl,.inr ⟨_,h⟩,r⟩
 ·cases e;exact h
theorem RepL.sq{xs:List D}{v:V}(h:RepL K H xs v):∃a vs,v=.ref a/\SqL K H a vs/\Reps K H xs vs:=by
 obtain⟨a,vs,rfl,h,r⟩:=h;exact⟨a,vs,rfl,.inl h,r⟩
theorem RepT.rep{d:D}{v:V}(h:RepT K H d v)(n:∀xs,d ≠ .list xs):Rep K H d v:=by
 rcases h with h |⟨ys,e,_⟩
 ·exact h
 ·exact absurd e (n ys)
theorem Nst.len:∀{xss:List (List D)}{as:List Addr},Nst K H xss as->as.length=xss.length
 |[],[],_=>rfl
 |_::_,_::_,h=>by rw[List.length_cons,List.length_cons,Nst.len h.2]
theorem Nst.live:∀{xss:List (List D)}{as:List Addr},Nst K H xss as->∀b∈as,∃vs,H b=some (.lst vs)
 |[],[],_,b,hb=>by cases hb
 |_::_,_::_,h,b,hb=>by
  rcases List.mem_cons.mp hb with rfl|hb
  ·obtain⟨vs,e,_⟩:=h.1;exact⟨vs,e⟩
  ·exact Nst.live h.2 b hb
theorem Nst.keep(p:Pers H H'):∀{xss:List (List D)}{as:List Addr},(∀a∈as,∀u,H a=some u->H' a=some u)->Nst K H xss as->Nst K H' xss as
 |[],[],_,_=>trivial
 |_::_,b::_,k,h=>by
  obtain⟨⟨vs,e,r⟩,t⟩:=h;exact⟨⟨vs,k b List.mem_cons_self _ e,r.mono p⟩,Nst.keep p (λa ha=>k a (List.mem_cons_of_mem _ ha)) t⟩
theorem MxR.ind{P:List Mx->List V->List Addr->Prop}(n:P [] [] [])(hv:∀d ms u us bs,Rep K H d u->MxR K H ms us bs->P ms us bs->P (.v d::ms) (u::us) bs)
  (hl:∀xs ms u us b bs,u=.ref b->(∃vs,H b=some (.lst vs)/\Reps K H xs vs)->MxR K H ms us bs->P ms us bs->P (.l xs::ms) (u::us) (b::bs)) {ms:List Mx}{us:List V}{bs:List Addr} (h:MxR K H ms us bs):P ms us bs:=by
 induction ms generalizing us bs with
 |nil=>
  cases us with
  |nil=>
   cases bs with
   |nil=>exact n
   |cons b bs=>exact h.elim
  |cons u us=>exact h.elim
 |cons m ms ih=>
  cases m with
  |v d=>
   cases us with
   |nil=>exact h.elim
   |cons u us=>exact hv _ _ _ _ _ h.1 h.2 (ih h.2)
  |l xs=>
   cases us with
   |nil=>exact h.elim
   |cons u us=>
    cases bs with
    |nil=>exact h.elim
    |cons b bs=>exact hl _ _ _ _ _ _ h.1 h.2.1 h.2.2 (ih h.2.2)
theorem MxR.live{ms:List Mx}{us:List V}{bs:List Addr}(h:MxR K H ms us bs):∀b∈bs,∃vs,H b=some (.lst vs) :=
 h.ind (P:=λ_ _ bs=>∀b∈bs,∃vs,H b=some (.lst vs)) (λ_ hb=>nomatch hb) (λ_ _ _ _ _ _ _ j=>j) λxs ms u us c bs _ l _ j b hb=>by
  rcases List.mem_cons.mp hb with rfl|hb
  ·obtain⟨vs,e,_⟩:=l;exact⟨vs,e⟩
  ·exact j b hb
theorem MxR.keep(p:Pers H H'){ms:List Mx}{us:List V}{bs:List Addr}(k:∀a∈bs,∀u,H a=some u->H' a=some u)(h:MxR K H ms us bs):MxR K H' ms us bs :=
 h.ind (P:=λms us bs=>(∀a∈bs,∀u,H a=some u->H' a=some u)->MxR K H' ms us bs) (λ_=>trivial) (λ_ _ _ _ _ r _ j k=>⟨r.mono p,j k⟩) (λxs ms u us b bs e l _ j k=>by
  obtain⟨vs,e1,r⟩:=l;exact⟨e,⟨vs,k b List.mem_cons_self _ e1,r.mono p⟩,j λa ha=>k a (List.mem_cons_of_mem _ ha)⟩) k
theorem MxR.fp{H2:Hp}{ms:List Mx}{us:List V}{bs cs:List Addr}(h:MxR K H ms us bs):MxR K H2 ms us cs->bs=cs :=
 h.ind (P:=λms us bs=>∀cs,MxR K H2 ms us cs->bs=cs) (λcs g=>by
  cases cs with
  |nil=>rfl
  |cons=>exact g.elim) (λ_ _ _ _ _ _ _ j cs g=>j cs g.2) (λxs ms u us b bs e _ _ j cs g=>by
  cases cs with
  |nil=>exact g.elim
  |cons c cs=>
   have:=e.symm.trans g.1
   cases this;rw[j cs g.2.2]) cs
theorem MxR.len{ms:List Mx}{us:List V}{bs:List Addr}(h:MxR K H ms us bs):ms.length=us.length :=
 h.ind (P:=λms us _=>ms.length=us.length) rfl (λ_ _ _ _ _ _ _ j=>congrArg (·+1) j) λ_ _ _ _ _ _ _ _ _ j=>congrArg (·+1) j
theorem RepO.live{o:O}{v:V}{f:List Addr}(h:RepO K H o v f):∀a∈f,∃u,H a=some u/\u.per=false:=by
 induction o with
 |anc a o ih=>exact ih h.2
 |tk ks=>
  obtain⟨a,rfl,rfl,e⟩:=h;intro b hb
  cases hb
 |dcT ks=>
  obtain⟨a,vs,rfl,rfl,e,r⟩:=h;intro b hb;rw[List.mem_singleton.mp hb];exact⟨_,e,rfl⟩
 |mix ms=>
  obtain⟨a,us,bs,rfl,rfl,e,m⟩:=h;intro b hb;rcases List.mem_cons.mp hb with rfl|hb
  ·exact⟨_,e,rfl⟩
  ·obtain⟨vs,e2⟩:=m.live b hb;exact⟨_,e2,rfl⟩
 |ins c fs=>
  obtain⟨a,dx,C,fv,rfl,rfl,_,e1,e2,_⟩:=h;intro b hb;simp only[List.mem_cons,List.not_mem_nil,or_false]at hb;rcases hb with rfl|rfl
  ·exact⟨_,e1,rfl⟩
  ·exact⟨_,e2,rfl⟩
 |lst xs=>
  obtain⟨a,vs,rfl,rfl,e,r⟩:=h;intro b hb;rw[List.mem_singleton.mp hb];exact⟨_,e,rfl⟩
 |dct ks=>
  obtain⟨a,vs,rfl,rfl,e,r⟩:=h;intro b hb;rw[List.mem_singleton.mp hb];exact⟨_,e,rfl⟩
 |nst xss ds=>
  obtain⟨a,as,us,rfl,rfl,e,n,r⟩:=h;intro b hb;rcases List.mem_cons.mp hb with rfl|hb
  ·exact⟨_,e,rfl⟩
  ·obtain⟨vs,e2⟩:=n.live b hb;exact⟨_,e2,rfl⟩
theorem RepO.keep{o:O}{v:V}{f:List Addr}(p:Pers H H')(k:∀a∈f,∀u,H a=some u->H' a=some u)(h:RepO K H o v f):RepO K H' o v f:=by
 induction o with
 |anc a o ih=>exact⟨h.1,ih h.2⟩
 |tk ks=>
  obtain⟨a,rfl,rfl,e⟩:=h;exact⟨a,rfl,rfl,p _ _ e rfl⟩
 |dcT ks=>
  obtain⟨a,vs,rfl,rfl,e,r⟩:=h;exact⟨a,vs,rfl,rfl,k a (by simp) _ e,r.1,r.2.mono p⟩
 |mix ms=>
  obtain⟨a,us,bs,rfl,rfl,e,m⟩:=h;exact⟨a,us,bs,rfl,rfl,k a List.mem_cons_self _ e,m.keep p λb hb=>k b (List.mem_cons_of_mem _ hb)⟩
 |ins c fs=>
  obtain⟨a,dx,C,fv,rfl,rfl,n,e1,e2,e3,r⟩:=h;exact⟨a,dx,C,fv,rfl,rfl,n,k a (by simp) _ e1,k dx (by simp) _ e2,e3,r.mono p⟩
 |lst xs=>
  obtain⟨a,vs,rfl,rfl,e,r⟩:=h;exact⟨a,vs,rfl,rfl,k a (by simp) _ e,r.mono p⟩
 |dct ks=>
  obtain⟨a,vs,rfl,rfl,e,r⟩:=h;exact⟨a,vs,rfl,rfl,k a (by simp) _ e,r.1,r.2.mono p⟩
 |nst xss ds=>
  obtain⟨a,as,us,rfl,rfl,e,n,r⟩:=h;exact⟨a,as,us,rfl,rfl,k a List.mem_cons_self _ e,n.keep p λb hb=>k b (List.mem_cons_of_mem _ hb),r.mono p⟩
theorem Slots.live{fp:List Addr}(h:Slots K H₀ H σD σ fp):∀a∈fp,∃u,H a=some u/\u.per=false:=by
 induction h with
 |nil=>intro a ha;cases ha
 |none _ ih=>exact ih
 |val _ _ ih=>exact ih
 |vw _ _ ih=>exact ih
 |vd _ _ ih=>exact ih
 |exc _ _ ih=>exact ih
 |scr _ _ ih=>exact ih
 |pen _ _ ih=>exact ih
 |tmp _ _ ih=>exact ih
 |own r _ ih=>
  intro a ha;rcases List.mem_append.mp ha with z|z
  ·exact r.live a z
  ·exact ih a z
theorem Slots.keep{fp:List Addr}(p:Pers H H')(kn:∀{d:D}{v:V},RepN K H d v->RepN K H' d v)(k:∀a∈fp,∀u,H a=some u->H' a=some u)(h:Slots K H₀ H σD σ fp):Slots K H₀ H' σD σ fp:=by
 induction h with
 |nil=>exact .nil
 |none _ ih=>exact .none (ih k)
 |val r _ ih=>exact .val (r.mono p) (ih k)
 |vw r _ ih=>exact .vw r (ih k)
 |vd r _ ih=>exact .vd r (ih k)
 |exc r _ ih=>exact .exc r (ih k)
 |scr r _ ih=>exact .scr r (ih k)
 |pen r _ ih=>exact .pen (p _ _ r rfl) (ih k)
 |tmp r _ ih=>exact .tmp (kn r) (ih k)
 |own r _ ih=>exact .own (r.keep p λa ha=>k a (List.mem_append_left _ ha)) (ih λa ha=>k a (List.mem_append_right _ ha))
theorem Slots.keepC{fp:List Addr}(p:Pers H H')(k:∀a∈fp,∀u,H a=some u->H' a=some u)(h:Slots K H₀ H σD σ fp):Slots K H₀ H' (clr σD) σ fp:=by
 induction h with
 |nil=>exact .nil
 |none _ ih=>exact .none (ih k)
 |val r _ ih=>exact .val (r.mono p) (ih k)
 |vw r _ ih=>exact .vw r (ih k)
 |vd r _ ih=>exact .vd r (ih k)
 |exc r _ ih=>exact .exc r (ih k)
 |scr r _ ih=>exact .scr r (ih k)
 |pen r _ ih=>exact .pen (p _ _ r rfl) (ih k)
 |tmp r _ ih=>exact .none (ih k)
 |own r _ ih=>exact .own (r.keep p λa ha=>k a (List.mem_append_left _ ha)) (ih λa ha=>k a (List.mem_append_right _ ha))
theorem Slots.length{fp:List Addr}(h:Slots K H₀ H σD σ fp):σD.length=σ.length:=by
 induction h with
 |nil=>rfl
 |none _ ih=>simp[ih]
 |val _ _ ih=>simp[ih]
 |vw _ _ ih=>simp[ih]
 |vd _ _ ih=>simp[ih]
 |exc _ _ ih=>simp[ih]
 |scr _ _ ih=>simp[ih]
 |pen _ _ ih=>simp[ih]
 |tmp _ _ ih=>simp[ih]
 |own _ _ ih=>simp[ih]
theorem DOk.after(s:Same H H')(h:DOk K H₀ H σD σ):DOk K H₀ H' σD σ:=by
 obtain⟨s0,fp,sl,nd,fr⟩:=h;exact⟨s0.trans s,fp,sl.keep s.pers (λh=>h.same s) λa _ u e=>s a u e,nd,fr⟩
theorem DOk.len(h:DOk K H₀ H σD σ):σD.length=σ.length:=let ⟨_,_,sl,_⟩:=h;sl.length
theorem Slots.get{fp:List Addr}(h:Slots K H₀ H σD σ fp):∀{i:Nat}{w:W},σD[i]?=some (some w)->∃v,σ[i]?=some (some v)/\match w with
  |.val d=>Rep K H d v
  |.vw xs=>RepL K H₀ xs v
  |.vd xs=>RepD K H₀ xs v
  |.exc xs=>RepX K H₀ xs v
  |.scr ns=>∃a,v=.ref a/\SqL K H₀ a (ns.map V.int)
  |.pen=>∃a,v=.ref a/\H a=some (zbi a)
  |.tmp d=>RepN K H d v
  |.own o=>∃f,RepO K H o v f/\∀a∈f,a∈fp:=by
 induction h with
 |nil=>intro i w e;simp at e
 |none _ ih=>
  intro i w e
  cases i with
  |zero=>simp at e
  |succ i=>exact ih (by simpa using e)
 |val r _ ih=>
  intro i w e
  cases i with
  |zero=>simp at e;subst e;exact⟨_,rfl,r⟩
  |succ i=>exact ih (by simpa using e)
 |vw r _ ih=>
  intro i w e
  cases i with
  |zero=>simp at e;subst e;exact⟨_,rfl,r⟩
  |succ i=>exact ih (by simpa using e)
 |vd r _ ih=>
  intro i w e
  cases i with
  |zero=>simp at e;subst e;exact⟨_,rfl,r⟩
  |succ i=>exact ih (by simpa using e)
 |exc r _ ih=>
  intro i w e
  cases i with
  |zero=>simp at e;subst e;exact⟨_,rfl,r⟩
  |succ i=>exact ih (by simpa using e)
 |scr r _ ih=>
  intro i w e
  cases i with
  |zero=>simp at e;subst e;exact⟨_,rfl,_,rfl,r⟩
  |succ i=>exact ih (by simpa using e)
 |pen r _ ih=>
  intro i w e
  cases i with
  |zero=>simp at e;subst e;exact⟨_,rfl,_,rfl,r⟩
  |succ i=>exact ih (by simpa using e)
 |tmp r _ ih=>
  intro i w e
  cases i with
  |zero=>simp at e;subst e;exact⟨_,rfl,r⟩
  |succ i=>exact ih (by simpa using e)
 |own r _ ih=>
  intro i w e
  cases i with
  |zero=>simp at e;subst e;exact⟨_,rfl,_,r,λa ha=>List.mem_append_left _ ha⟩
  |succ i=>
   obtain⟨v,e1,e2⟩:=ih (by simpa using e);refine⟨v,e1,?_⟩
   cases w with
   |val d=>exact e2
   |vw xs=>exact e2
   |vd xs=>exact e2
   |exc xs=>exact e2
   |scr ns=>exact e2
   |pen=>exact e2
   |tmp d=>exact e2
   |own o=>obtain⟨f,r,m⟩:=e2;exact⟨f,r,λa ha=>List.mem_append_right _ (m a ha)⟩
theorem DOk.val(h:DOk K H₀ H σD σ){i:Nat}{d:D}(e:σD[i]?=some (some (.val d))):∃v,σ[i]?=some (some v)/\Rep K H d v:=let ⟨_,_,sl,_⟩:=h;sl.get e
theorem DOk.vw(h:DOk K H₀ H σD σ){i:Nat}{xs:List D}(e:σD[i]?=some (some (.vw xs))):∃v,σ[i]?=some (some v)/\RepL K H xs v:=by
 obtain⟨s,_,sl,_⟩:=h;obtain⟨v,e1,e2⟩:=sl.get e;exact⟨v,e1,RepL.same s e2⟩
theorem DOk.vd(h:DOk K H₀ H σD σ){i:Nat}{xs:List (Key×D)}(e:σD[i]?=some (some (.vd xs))):∃v,σ[i]?=some (some v)/\RepD K H xs v:=by
 obtain⟨s,_,sl,_⟩:=h;obtain⟨v,e1,e2⟩:=sl.get e;exact⟨v,e1,RepD.same s e2⟩
theorem DOk.exc(h:DOk K H₀ H σD σ){i:Nat}{xs:Str×List (Str×Int)}(e:σD[i]?=some (some (.exc xs))):∃v,σ[i]?=some (some v)/\RepX K H xs v:=by
 obtain⟨s,_,sl,_⟩:=h;obtain⟨v,e1,e2⟩:=sl.get e;exact⟨v,e1,RepX.same s e2⟩
theorem DOk.scr(h:DOk K H₀ H σD σ){i:Nat}{ns:List Int}(e:σD[i]?=some (some (.scr ns))):∃a,σ[i]?=some (some (.ref a))/\SqL K H a (ns.map V.int):=by
 obtain⟨s,_,sl,_⟩:=h;obtain⟨v,e1,a,rfl,e2⟩:=sl.get e;exact⟨a,e1,s.seq e2⟩
theorem DOk.pen(h:DOk K H₀ H σD σ){i:Nat}(e:σD[i]?=some (some .pen)):∃a,σ[i]?=some (some (.ref a))/\H a=some (zbi a):=by
 obtain⟨s,_,sl,_⟩:=h;obtain⟨v,e1,a,rfl,e2⟩:=sl.get e;exact⟨a,e1,e2⟩
theorem DOk.tmp(h:DOk K H₀ H σD σ){i:Nat}{d:D}(e:σD[i]?=some (some (.tmp d))):∃v,σ[i]?=some (some v)/\RepN K H d v:=let ⟨_,_,sl,_⟩:=h;sl.get e
theorem DOk.ownL(h:DOk K H₀ H σD σ){i:Nat}{xs:List D}(e:σD[i]?=some (some (.own (.lst xs)))):∃a vs,σ[i]?=some (some (.ref a))/\H a=some (.lst vs)/\Reps K H xs vs/\H₀ a=none:=by
 obtain⟨s,fp,sl,nd,fr⟩:=h;obtain⟨v,e1,f,⟨a,vs,rfl,rfl,e2,r⟩,m⟩:=sl.get e;exact⟨a,vs,e1,e2,r,fr a (m a (by simp))⟩
theorem DOk.ownD(h:DOk K H₀ H σD σ){i:Nat}{xs:List (Key×D)}(e:σD[i]?=some (some (.own (.dct xs)))):∃a vs,σ[i]?=some (some (.ref a))/\H a=some (.dK vs)/\RepKV K H xs vs/\H₀ a=none:=by
 obtain⟨s,fp,sl,nd,fr⟩:=h;obtain⟨v,e1,f,⟨a,vs,rfl,rfl,e2,r⟩,m⟩:=sl.get e;exact⟨a,vs,e1,e2,r,fr a (m a (by simp))⟩
theorem Slots.set{fp f:List Addr}(h:Slots K H₀ H σD σ fp){w:Option W}{v:Option V}(hw:∀{ws:DSt}{vs:St}{g:List Addr},Slots K H₀ H ws vs g->Slots K H₀ H (w::ws) (v::vs) (f++g)):
  ∀(i:Nat),i<σD.length->∃g g',Slots K H₀ H (σD.set i w) (σ.set i v) (g++(f++g'))/\(g++g').Sublist fp:=by
 induction h with
 |nil=>intro i hi;exact absurd hi (Nat.not_lt_zero _)
 |none t ih=>
  intro i hi
  cases i with
  |zero=>exact⟨[],_,hw t,List.Sublist.refl _⟩
  |succ i=>obtain⟨g,g',e,s⟩:=ih i (Nat.lt_of_succ_lt_succ hi);exact⟨g,g',.none e,s⟩
 |val r t ih=>
  intro i hi
  cases i with
  |zero=>exact⟨[],_,hw t,List.Sublist.refl _⟩
  |succ i=>obtain⟨g,g',e,s⟩:=ih i (Nat.lt_of_succ_lt_succ hi);exact⟨g,g',.val r e,s⟩
 |vw r t ih=>
  intro i hi
  cases i with
  |zero=>exact⟨[],_,hw t,List.Sublist.refl _⟩
  |succ i=>obtain⟨g,g',e,s⟩:=ih i (Nat.lt_of_succ_lt_succ hi);exact⟨g,g',.vw r e,s⟩
 |vd r t ih=>
  intro i hi
  cases i with
  |zero=>exact⟨[],_,hw t,List.Sublist.refl _⟩
  |succ i=>obtain⟨g,g',e,s⟩:=ih i (Nat.lt_of_succ_lt_succ hi);exact⟨g,g',.vd r e,s⟩
 |exc r t ih=>
  intro i hi
  cases i with
  |zero=>exact⟨[],_,hw t,List.Sublist.refl _⟩
  |succ i=>obtain⟨g,g',e,s⟩:=ih i (Nat.lt_of_succ_lt_succ hi);exact⟨g,g',.exc r e,s⟩
 |scr r t ih=>
  intro i hi
  cases i with
  |zero=>exact⟨[],_,hw t,List.Sublist.refl _⟩
  |succ i=>obtain⟨g,g',e,s⟩:=ih i (Nat.lt_of_succ_lt_succ hi);exact⟨g,g',.scr r e,s⟩
 |pen r t ih=>
  intro i hi
  cases i with
  |zero=>exact⟨[],_,hw t,List.Sublist.refl _⟩
  |succ i=>obtain⟨g,g',e,s⟩:=ih i (Nat.lt_of_succ_lt_succ hi);exact⟨g,g',.pen r e,s⟩
 |tmp r t ih=>
  intro i hi
  cases i with
  |zero=>exact⟨[],_,hw t,List.Sublist.refl _⟩
  |succ i=>obtain⟨g,g',e,s⟩:=ih i (Nat.lt_of_succ_lt_succ hi);exact⟨g,g',.tmp r e,s⟩
 |@own o v' f' ws vs fp' r t ih=>
  intro i hi
  cases i with
  |zero=>exact⟨[],_,hw t,List.sublist_append_right _ _⟩
  |succ i=>
   obtain⟨g,g',e,s⟩:=ih i (Nat.lt_of_succ_lt_succ hi);refine⟨f'++g,g',?_,?_⟩
   ·rw[List.append_assoc];exact .own r e
   ·rw[List.append_assoc];exact(List.Sublist.refl _).append s
theorem DOk.put(h:DOk K H₀ H σD σ){w:Option W}{v:Option V}(hw:∀{ws:DSt}{vs:St}{g:List Addr},Slots K H₀ H ws vs g->Slots K H₀ H (w::ws) (v::vs) g)(i:Nat):DOk K H₀ H (σD.set i w) (σ.set i v):=by
 obtain⟨s,fp,sl,nd,fr⟩:=h
 by_cases hi:i<σD.length
 ·obtain⟨g,g',e,sb⟩:=sl.set (f:=[]) hw i hi;rw[List.nil_append]at e;exact⟨s,_,e,sb.nodup nd,λa ha=>fr a (sb.subset ha)⟩
 ·rw[List.set_eq_of_length_le (by omega),List.set_eq_of_length_le (by rw[<-sl.length];omega)];exact⟨s,fp,sl,nd,fr⟩
theorem DOk.setV(h:DOk K H₀ H σD σ){d:D}{v:V}(r:Rep K H d v)(i:Nat):DOk K H₀ H (σD.set i (some (.val d))) (σ.set i (some v)):=h.put (.val r) i
theorem DOk.setN(h:DOk K H₀ H σD σ)(v:Option V)(i:Nat):DOk K H₀ H (σD.set i none) (σ.set i v):=h.put (.none) i
theorem DOk.setO{H1:Hp}(h:DOk K H₀ H1 σD σ)(s1:Same H1 H){a:Addr}{vs:List V}{xs:List D}(n:H1 a=none)(e:H a=some (.lst vs))(r:Reps K H xs vs)(i:Nat):DOk K H₀ H (σD.set i (some (.own (.lst xs)))) (σ.set i (some (.ref a))):=by
 obtain⟨s,fp,sl,nd,fr⟩:=id h;have lv:∀b∈fp,b≠a:=λb hb z=>by
  obtain⟨u,e1,_⟩:=sl.live b hb;rw[z,n]at e1;cases e1
 obtain⟨s',fp',sl',_⟩:=id (h.after s1);have sl2:Slots K H₀ H σD σ fp:=sl.keep s1.pers (λh=>h.same s1) λb _ u e=>s1 b u e
 by_cases hi:i<σD.length
 ·obtain⟨g,g',e',sb⟩:=sl2.set (f:=[a]) (w:=some (.own (.lst xs))) (v:=some (.ref a)) (λt=>.own ⟨a,vs,rfl,rfl,e,r⟩ t) i hi;refine⟨s',_,e',?_,λb hb=>?_⟩
  ·have nd2:=sb.nodup nd;rw[List.nodup_append]at nd2 ⊢;refine⟨nd2.1,?_,λx hx y hy=>?_⟩
   ·rw[List.singleton_append,List.nodup_cons];exact⟨λz=>lv a (sb.subset (List.mem_append_right _ z)) rfl,nd2.2.1⟩
   ·rcases List.mem_append.mp hy with z|z
    ·rw[List.mem_singleton.mp z];exact lv x (sb.subset (List.mem_append_left _ hx))
    ·exact nd2.2.2 x hx y z
  ·rcases List.mem_append.mp hb with z|z
   ·exact fr b (sb.subset (List.mem_append_left _ z))
   ·rcases List.mem_append.mp z with z|z
    ·rw[List.mem_singleton.mp z]
     cases q:H₀ a with
     |none=>rfl
     |some u=>rw[s a u q]at n;cases n
    ·exact fr b (sb.subset (List.mem_append_right _ z))
 ·rw[List.set_eq_of_length_le (by omega),List.set_eq_of_length_le (by rw[<-sl2.length];omega)];exact⟨s',fp,sl2,nd,fr⟩
theorem Slots.write{fp:List Addr}(h:Slots K H₀ H σD σ fp)(nd:fp.Nodup){i:Nat}{xs ys:List D}{a:Addr}{vs:List V}(e:σD[i]?=some (some (.own (.lst xs))))(ev:σ[i]?=some (some (.ref a)))(ea:∃zs,H a=some (.lst zs))(r:Reps K H ys vs):
  Slots K H₀ (upd H a (.lst vs)) (clr (σD.set i (some (.own (.lst ys))))) σ fp:=by
 have ps:Pers H (upd H a (.lst vs)):=λb o hb hp=>by
  obtain⟨zs,ea⟩:=ea;rw[zn (λz=>by rw[z,ea]at hb;cases hb;cases hp)];exact hb
 induction h generalizing i with
 |nil=>simp at e
 |none t ih=>
  cases i with
  |zero=>simp at e
  |succ i=>exact .none (ih nd (by simpa using e) (by simpa using ev))
 |val q t ih=>
  cases i with
  |zero=>simp at e
  |succ i=>exact .val (q.mono ps) (ih nd (by simpa using e) (by simpa using ev))
 |vw q t ih=>
  cases i with
  |zero=>simp at e
  |succ i=>exact .vw q (ih nd (by simpa using e) (by simpa using ev))
 |vd q t ih=>
  cases i with
  |zero=>simp at e
  |succ i=>exact .vd q (ih nd (by simpa using e) (by simpa using ev))
 |exc q t ih=>
  cases i with
  |zero=>simp at e
  |succ i=>exact .exc q (ih nd (by simpa using e) (by simpa using ev))
 |scr q t ih=>
  cases i with
  |zero=>simp at e
  |succ i=>exact .scr q (ih nd (by simpa using e) (by simpa using ev))
 |pen q t ih=>
  cases i with
  |zero=>simp at e
  |succ i=>exact .pen (ps _ _ q rfl) (ih nd (by simpa using e) (by simpa using ev))
 |tmp q t ih=>
  cases i with
  |zero=>simp at e
  |succ i=>exact .none (ih nd (by simpa using e) (by simpa using ev))
 |@own o v f ws wvs fp' q t ih=>
  rw[List.nodup_append]at nd
  cases i with
  |zero=>
   simp at e ev;subst e ev;obtain⟨b,zs,eb,rfl,hb,rb⟩:=q
   cases eb;refine .own ⟨a,vs,rfl,rfl,zp,r.mono ps⟩ (t.keepC ps λc hc u hu=>?_);rw[zn (λz=>nd.2.2 a (by simp) c hc z.symm)];exact hu
  |succ i=>
   have e':ws[i]?=some (some (.own (.lst xs))):=by simpa using e
   have ev':wvs[i]?=some (some (.ref a)):=by simpa using ev
   refine .own (q.keep ps λc hc u hu=>?_) (ih nd.2.1 e' ev');obtain⟨v',e1,f',⟨b,zs,rfl,rfl,hb,rb⟩,m⟩:=t.get e';rw[ev']at e1
   cases e1;rw[zn (λz=>nd.2.2 c hc a (m a (by simp)) z)];exact hu
theorem wz{a:Addr}{o o':HO}(e:H a=some o)(p:o.per=false):Pers H (upd H a o'):=λb u hb hp=>by
 rw[zn (λz=>by rw[z,e]at hb;cases hb;rw[p]at hp;cases hp)];exact hb
theorem DOk.write(h:DOk K H₀ H σD σ){i:Nat}{xs ys:List D}{a:Addr}{vs zs:List V}(e:σD[i]?=some (some (.own (.lst xs))))(ev:σ[i]?=some (some (.ref a)))(ea:H a=some (.lst zs))(r:Reps K H ys vs):DOk K H₀ (upd H a (.lst vs)) (clr (σD.set i (some (.own (.lst ys))))) σ:=by
 obtain⟨a',_,e1,_,_,n⟩:=h.ownL e;rw[ev]at e1
 cases e1;obtain⟨s,fp,sl,nd,fr⟩:=h;refine⟨λb o hb=>?_,fp,sl.write nd e ev ⟨_,ea⟩ r,nd,fr⟩;rw[zn (λz=>by rw[z,n]at hb;cases hb)];exact s b o hb
end
section
variable {X:Cx}{pins:List (Addr×Obj)}{σ:St}{H:Hp}{s:Shared}{a:Addr}
theorem Inv.frz(I:Inv X pins σ H s){vs:List V}(h:H a=some (.lst vs)):∃o,Inv X pins σ (upd H a (.frz o (.lst vs))) s:=by
 obtain⟨z,its,n,r,e⟩:=I.hok a _ h;exact⟨_,I.write (h':=s.heap) (t':=s.toks) (x:=a) (e:=a) (by rw[h];exact trivial) (.inl rfl) (λb u _ q=>q) ⟨_,e⟩ ⟨e,z,its,n,r,e⟩⟩
theorem zjj{P:Program}{w:World}{h:Heap}{x y z:Int}{tx ty tz:Tok}{n:Nat}(e:h.get? a=some { cls:=.type "list",data:=.seq #[.int x tx,.int y ty,.int z tz] n }):ObjOk P w H h a (zbi a) :=
 ⟨⟨x,y,z,tx,ty,tz,n,e⟩,⟨_,e⟩,λh1 h2 ⟨x,y,z,tx,ty,tz,n,e⟩ k=>⟨x,y,z,tx,ty,tz,n,k _ e⟩⟩
theorem Inv.toPen(I:Inv X pins σ H s){x y z:Int}(h:H a=some (.lst [.int x,.int y,.int z])):Inv X pins σ (upd H a (zbi a)) s:=by
 obtain⟨zz,its,n,r,e⟩:=I.hok a _ h
 cases r with
 |cons r1 r=>
  cases r with
  |cons r2 r=>
   cases r with
   |cons r3 r=>
    cases r;obtain⟨t1,rfl⟩:=r1;obtain⟨t2,rfl⟩:=r2;obtain⟨t3,rfl⟩:=r3;exact I.write (h':=s.heap) (t':=s.toks) (x:=a) (e:=a) (by rw[h];exact trivial) (.inl rfl) (λb u _ q=>q) ⟨_,e⟩ (zjj e)
end
abbrev DTE:=DSt->(D->Prop)->Prop
abbrev DTF:=DSt->(List D->Prop)->Prop
abbrev DTT:=DSt->(Bool->Prop)->Prop
abbrev DTP:=DSt->(List W->Prop)->Prop
def DEnd(X:Cx)(pins:List (Addr×Obj))(σ:St)(H:Hp)(Q:D->Prop)(u:Value)(s':Shared):Prop:=∃v H' d,Inv X pins σ H' s'/\RelV v u/\Same H H'/\Rep X.K H' d v/\Q d
def zq3(X:Cx)(pins:List (Addr×Obj))(σ:St)(H:Hp)(Q:D->Prop)(u:Value)(s':Shared):Prop:=∃v H' d,Inv X pins σ H' s'/\RelV v u/\Same H H'/\RepT X.K H' d v/\Q d
def zel(X:Cx)(pins:List (Addr×Obj))(σ:St)(H:Hp)(Q:List D->Prop)(u:Value)(s':Shared):Prop:=∃a H' vs xs,u=.ref a/\Inv X pins σ H' s'/\Same H H'/\H a=none/\H' a=some (.lst vs)/\Reps X.K H' xs vs/\Q xs
structure DE(X:Cx)(e:Expr)(t:DTE):Prop where
 run:∀(pins:List (Addr×Obj)) (s:Shared) (σ:St) (H H₀:Hp) (σD:DSt) (Q:D->Prop),Inv X pins σ H s->DOk X.K H₀ H σD σ->t σD Q->wpAny (model X.prog X.w) X.A (eval e X.env) (DEnd X pins σ H Q) X.xe s
structure DV(X:Cx)(e:Expr)(t:DTE):Prop where
 run:∀(pins:List (Addr×Obj)) (s:Shared) (σ:St) (H H₀:Hp) (σD:DSt) (Q:D->Prop),Inv X pins σ H s->DOk X.K H₀ H σD σ->t σD Q->wpAny (model X.prog X.w) X.A (eval e X.env) (zq3 X pins σ H Q) X.xe s
structure DF(X:Cx)(e:Expr)(t:DTF):Prop where
 run:∀(pins:List (Addr×Obj)) (s:Shared) (σ:St) (H H₀:Hp) (σD:DSt) (Q:List D->Prop),Inv X pins σ H s->DOk X.K H₀ H σD σ->t σD Q->wpAny (model X.prog X.w) X.A (eval e X.env) (zel X pins σ H Q) X.xe s
def zq4(X:Cx)(pins:List (Addr×Obj))(σ:St)(H:Hp)(Q:Bool->Prop)(b:Bool)(s':Shared):Prop:=∃H',Inv X pins σ H' s'/\Same H H'/\Q b
structure DT(X:Cx)(e:Expr)(t:DTT):Prop where
 run:∀(pins:List (Addr×Obj)) (s:Shared) (σ:St) (H H₀:Hp) (σD:DSt) (Q:Bool->Prop),Inv X pins σ H s->DOk X.K H₀ H σD σ->t σD Q->wpAny (model X.prog X.w) X.A (isTrue e X.env (eval e X.env)) (zq4 X pins σ H Q) X.xe s
structure DWt(X:Cx)(e:Expr)(t:DTT):Prop where
 run:∀(whole:Sem Value) (pins:List (Addr×Obj)) (s:Shared) (σ:St) (H H₀:Hp) (σD:DSt) (Q:Bool->Prop),Inv X pins σ H s->DOk X.K H₀ H σD σ->t σD Q->wpAny (model X.prog X.w) X.A (isTrue e X.env whole) (zq4 X pins σ H Q) X.xe s
structure DA(X:Cx)(es:List Expr)(t:DTF):Prop where
 run:∀(pos:Pos) (pins:List (Addr×Obj)) (s:Shared) (σ:St) (H H₀:Hp) (σD:DSt) (Q:List D->Prop),Inv X pins σ H s->DOk X.K H₀ H σD σ->t σD Q ->
  wpAny (model X.prog X.w) X.A (spliced (backTo pos (starEach es X.env))) (λus s'=>∃vs H' ds,Inv X pins σ H' s'/\Vals vs us/\Same H H'/\Reps X.K H' ds vs/\Q ds) X.xe s
inductive RepTs(K:PySem.W.Frag)(H:Hp):List D->List V->Prop
 |nil:RepTs K H [] []
 |cons {d:D}{v:V}{ds:List D}{vs:List V} (r:RepT K H d v) (t:RepTs K H ds vs):RepTs K H (d::ds) (v::vs)
structure DAv(X:Cx)(es:List Expr)(t:DTF):Prop where
 run:∀(pos:Pos) (pins:List (Addr×Obj)) (s:Shared) (σ:St) (H H₀:Hp) (σD:DSt) (Q:List D->Prop),Inv X pins σ H s->DOk X.K H₀ H σD σ->t σD Q ->
  wpAny (model X.prog X.w) X.A (spliced (backTo pos (starEach es X.env))) (λus s'=>∃vs H' ds,Inv X pins σ H' s'/\Vals vs us/\Same H H'/\RepTs X.K H' ds vs/\Q ds) X.xe s
section
variable (K:PySem.W.Frag)
def zsc(H:Hp):W->V->Prop
 |.val d,v=>Rep K H d v
 |.vw xs,v=>RepL K H xs v
 |.vd xs,v=>RepD K H xs v
 |.exc xs,v=>RepX K H xs v
 |.scr ns,v=>∃a,v=.ref a/\SqL K H a (ns.map V.int)
 |.pen,v=>∃a,v=.ref a/\H a=some (zbi a)
 |.tmp _,_=>False
 |.own _,_=>False
inductive RepWs(H:Hp):List W->List V->Prop
 |nil:RepWs H [] []
 |cons {w:W}{v:V}{ws:List W}{vs:List V} (r:zsc K H w v) (t:RepWs H ws vs):RepWs H (w::ws) (v::vs)
end
theorem RepWs.length{K:PySem.W.Frag}{H:Hp}{ws:List W}{vs:List V}(h:RepWs K H ws vs):ws.length=vs.length:=by
 induction h with
 |nil=>rfl
 |cons _ _ ih=>simp[ih]
structure DPs(X:Cx)(es:List Expr)(t:DTP):Prop where
 run:∀(pos:Pos) (pins:List (Addr×Obj)) (s:Shared) (σ:St) (H H₀:Hp) (σD:DSt) (Q:List W->Prop),Inv X pins σ H s->DOk X.K H₀ H σD σ->t σD Q ->
  wpAny (model X.prog X.w) X.A (spliced (backTo pos (starEach es X.env))) (λus s'=>∃vs H' ws,Inv X pins σ H' s'/\Vals vs us/\Same H H'/\RepWs X.K H' ws vs/\Q ws) X.xe s
section
variable (K:PySem.W.Frag)
def cnE(t:DTE):TE:=λσ H Q=>∃H₀ σD QD,DOk K H₀ H σD σ/\t σD QD/\∀v H' d,Same H H'->Rep K H' d v->QD d->Q v H'
def cnV(t:DTE):TE:=λσ H Q=>∃H₀ σD QD,DOk K H₀ H σD σ/\t σD QD/\∀v H' d,Same H H'->RepT K H' d v->QD d->Q v H'
def cnF(t:DTF):TE:=λσ H Q=>∃H₀ σD QD,DOk K H₀ H σD σ/\t σD QD/\∀a H' vs xs,Same H H'->H a=none->H' a=some (.lst vs)->Reps K H' xs vs->QD xs->Q (.ref a) H'
def cnT(t:DTT):TT:=λσ H Q=>∃H₀ σD QD,DOk K H₀ H σD σ/\t σD QD/\∀b H',Same H H'->QD b->Q b H'
def cnA(t:DTF):TA:=λσ H Q=>∃H₀ σD QD,DOk K H₀ H σD σ/\t σD QD/\∀vs H' ds,Same H H'->Reps K H' ds vs->QD ds->Q vs H'
def zwf(t:DTF):TA:=λσ H Q=>∃H₀ σD QD,DOk K H₀ H σD σ/\t σD QD/\∀vs H' ds,Same H H'->RepTs K H' ds vs->QD ds->Q vs H'
def cnP(t:DTP):TA:=λσ H Q=>∃H₀ σD QD,DOk K H₀ H σD σ/\t σD QD/\∀vs H' ws,Same H H'->RepWs K H' ws vs->QD ws->Q vs H'
end
section
variable {X:Cx}{e:Expr}{es:List Expr}
theorem DE.pe{t:DTE}(h:DE X e t):PE X e (cnE X.K t):=λpins s σ H Q I zq63=>by obtain⟨H₀,σD,QD,ok,q,k⟩:=zq63;exact thn (h.run pins s σ H H₀ σD QD I ok q) λu s' zq50=>by obtain⟨v,H',d,I',r,sm,rp,qd⟩:=zq50;exact⟨v,H',I',r,k v H' d sm rp qd⟩
theorem DV.pe{t:DTE}(h:DV X e t):PE X e (cnV X.K t):=λpins s σ H Q I zq63=>by obtain⟨H₀,σD,QD,ok,q,k⟩:=zq63;exact thn (h.run pins s σ H H₀ σD QD I ok q) λu s' zq50=>by obtain⟨v,H',d,I',r,sm,rp,qd⟩:=zq50;exact⟨v,H',I',r,k v H' d sm rp qd⟩
theorem DF.pe{t:DTF}(h:DF X e t):PE X e (cnF X.K t):=λpins s σ H Q I zq63=>by obtain⟨H₀,σD,QD,ok,q,k⟩:=zq63;exact thn (h.run pins s σ H H₀ σD QD I ok q) λu s' zq50=>by obtain⟨a,H',vs,xs,eu,I',sm,n,e,rp,qd⟩:=zq50;exact⟨.ref a,H',I',eu,k a H' vs xs sm n e rp qd⟩
theorem DT.pt{t:DTT}(h:DT X e t):PT X e (cnT X.K t):=λpins s σ H Q I zq63=>by obtain⟨H₀,σD,QD,ok,q,k⟩:=zq63;exact thn (h.run pins s σ H H₀ σD QD I ok q) λu s' zq50=>by obtain⟨H',I',sm,qd⟩:=zq50;exact⟨H',I',k u H' sm qd⟩
theorem DA.pa{t:DTF}(h:DA X es t):PA X es (cnA X.K t):=λpos pins s σ H Q I zq65=>by obtain⟨H₀,σD,QD,ok,q,k⟩:=zq65;exact thn (h.run pos pins s σ H H₀ σD QD I ok q) λus s' zq60=>by obtain⟨vs,H',ds,I',r,sm,rp,qd⟩:=zq60;exact⟨vs,H',I',r,k vs H' ds sm rp qd⟩
theorem DAv.pa{t:DTF}(h:DAv X es t):PA X es (zwf X.K t):=λpos pins s σ H Q I zq68=>by obtain⟨H₀,σD,QD,ok,q,k⟩:=zq68;exact thn (h.run pos pins s σ H H₀ σD QD I ok q) λus s' zq63=>by obtain⟨vs,H',ds,I',r,sm,rp,qd⟩:=zq63;exact⟨vs,H',I',r,k vs H' ds sm rp qd⟩
theorem DPs.pa{t:DTP}(h:DPs X es t):PA X es (cnP X.K t):=λpos pins s σ H Q I zq67=>by obtain⟨H₀,σD,QD,ok,q,k⟩:=zq67;exact thn (h.run pos pins s σ H H₀ σD QD I ok q) λus s' zq62=>by obtain⟨vs,H',ws,I',r,sm,rp,qd⟩:=zq62;exact⟨vs,H',I',r,k vs H' ws sm rp qd⟩
theorem DE.of{t:DTE}{t':TE}(h:PE X e t')(k:∀σ H H₀ σD QD,DOk X.K H₀ H σD σ->t σD QD->t' σ H (λv H'=>∃d,Same H H'/\Rep X.K H' d v/\QD d)):DE X e t :=
 ⟨λpins s σ H H₀ σD Q I ok q=>thn (h pins s σ H _ I (k σ H H₀ σD Q ok q)) λu s' zq80=>by obtain⟨v,H',I',r,d,sm,rp,qd⟩:=zq80;exact⟨v,H',d,I',r,sm,rp,qd⟩⟩
theorem DV.of{t:DTE}{t':TE}(h:PE X e t')(k:∀σ H H₀ σD QD,DOk X.K H₀ H σD σ->t σD QD->t' σ H (λv H'=>∃d,Same H H'/\RepT X.K H' d v/\QD d)):DV X e t :=
 ⟨λpins s σ H H₀ σD Q I ok q=>thn (h pins s σ H _ I (k σ H H₀ σD Q ok q)) λu s' zq80=>by obtain⟨v,H',I',r,d,sm,rp,qd⟩:=zq80;exact⟨v,H',d,I',r,sm,rp,qd⟩⟩
theorem DF.of{t:DTF}{t':TE}(h:PE X e t')(k:∀σ H H₀ σD QD,DOk X.K H₀ H σD σ->t σD QD->t' σ H (λv H'=>∃a vs xs,v=.ref a/\Same H H'/\H a=none/\H' a=some (.lst vs)/\Reps X.K H' xs vs/\QD xs)):DF X e t :=
 ⟨λpins s σ H H₀ σD Q I ok q=>thn (h pins s σ H _ I (k σ H H₀ σD Q ok q)) λu s' zq80=>by obtain⟨v,H',I',r,a,vs,xs,ev,sm,n,e,rp,qd⟩:=zq80;exact⟨a,H',vs,xs,by subst ev;exact r,I',sm,n,e,rp,qd⟩⟩
theorem DT.of{t:DTT}{t':TT}(h:PT X e t')(k:∀σ H H₀ σD QD,DOk X.K H₀ H σD σ->t σD QD->t' σ H (λb H'=>Same H H'/\QD b)):DT X e t :=
 ⟨λpins s σ H H₀ σD Q I ok q=>thn (h pins s σ H _ I (k σ H H₀ σD Q ok q)) λu s' zq80=>by obtain⟨H',I',sm,qd⟩:=zq80;exact⟨H',I',sm,qd⟩⟩
theorem DE.dv{t:DTE}(h:DE X e t):DV X e t:=⟨λpins s σ H H₀ σD Q I ok q=>thn (h.run pins s σ H H₀ σD Q I ok q) λu s' zq28=>by obtain⟨v,H',d,I',r,sm,rp,qd⟩:=zq28;exact⟨v,H',d,I',r,sm,rp.top,qd⟩⟩
theorem zal{pins:List (Addr×Obj)}{σ:St}{H H':Hp}{s:Shared}{a:Addr}{vs:List V}{xs:List D}(I:Inv X pins σ H' s)(sm:Same H H')(n:H a=none)(e:H' a=some (.lst vs))(r:Reps X.K H' xs vs):
  ∃H'',Inv X pins σ H'' s/\Same H H''/\Rep X.K H'' (.list xs) (.ref a):=by
 obtain⟨o,J⟩:=I.frz e;refine⟨_,J,λb u hb=>?_,.lst zp (r.mono (wz e rfl))⟩;rw[zn (yj hb n)];exact sm b u hb
def dFz(t:DTF):DTE:=λσ Q=>t σ λxs=>Q (.list xs)
theorem DF.de{t:DTF}(h:DF X e t):DE X e (dFz t):=⟨λpins s σ H H₀ σD Q I ok q=>thn (h.run pins s σ H H₀ σD _ I ok q) λu s' zq34=>by
 obtain⟨a,H',vs,xs,eu,I',sm,n,e,rp,qd⟩:=zq34;obtain⟨H'',J,sm',r'⟩:=zal I' sm n e rp;exact⟨.ref a,H'',.list xs,J,eu,sm',r',qd⟩⟩
def zpf(i:Nat):DTE:=λσ Q=>match σ[i]? with
 |some (some (.val d))=>Q d
 |_=>False
def zpg(i:Nat):DTE:=λσ Q=>match σ[i]? with
 |some (some (.val d))=>Q d
 |some (some (.own (.lst xs)))=>Q (.list xs)
 |some (some (.vw xs))=>Q (.list xs)
 |_=>False
def dC(d:D):DTE:=λ_ Q=>Q d
theorem yf(i:Nat){x:Str}{pos:Pos}(hN:X.N[i]?=some x:=by rfl)(hv:Vis X.env.scope x:=by first|exact Or.inl rfl|exact Or.inr (Or.inl rfl)|exact Or.inr (Or.inr rfl))(hd:(x ==("__debug__" : Str))=false:=by decide)
  (hcd:(x ==("__classdict__" : Str))=false:=by decide):DE X (.Name x pos) (zpf i):=by
 refine DE.of (wc (i:=i) hN hv hd hcd) λσ H H₀ σD QD ok q=>?_;unfold zpf at q
 split at q
 ·next d e=>
  obtain⟨v,e1,r⟩:=ok.val e;exact⟨v,e1,d,Same.refl _,r,q⟩
 ·exact q.elim
theorem zb(i:Nat){x:Str}{pos:Pos}(hN:X.N[i]?=some x:=by rfl)(hv:Vis X.env.scope x:=by first|exact Or.inl rfl|exact Or.inr (Or.inl rfl)|exact Or.inr (Or.inr rfl))(hd:(x ==("__debug__" : Str))=false:=by decide)
  (hcd:(x ==("__classdict__" : Str))=false:=by decide):DV X (.Name x pos) (zpg i):=by
 refine DV.of (wc (i:=i) hN hv hd hcd) λσ H H₀ σD QD ok q=>?_;unfold zpg at q
 split at q
 ·next d e=>
  obtain⟨v,e1,r⟩:=ok.val e;exact⟨v,e1,d,Same.refl _,r.top,q⟩
 ·next xs e=>
  obtain⟨a,vs,e1,e2,r,_⟩:=ok.ownL e;exact⟨.ref a,e1,.list xs,Same.refl _,.inr ⟨xs,rfl,a,vs,rfl,.inl e2,r⟩,q⟩
 ·next xs e=>
  obtain⟨v,e1,r⟩:=ok.vw e;exact⟨v,e1,.list xs,Same.refl _,.inr ⟨xs,rfl,r⟩,q⟩
 ·exact q.elim
theorem zj{i j pos}:DE X (.Constant (.int i) j pos) (dC (.int i)):=DE.of ve λσ H H₀ σD QD ok q=>⟨.int i,Same.refl _,.int,q⟩
theorem wf{b j pos}:DE X (.Constant (.bool b) j pos) (dC (.bool b)):=DE.of zt8 λσ H H₀ σD QD ok q=>⟨.bool b,Same.refl _,.bl,q⟩
theorem qu{j pos}:DE X (.Constant .none j pos) (dC .none):=DE.of zrg λσ H H₀ σD QD ok q=>⟨.none,Same.refl _,.non,q⟩
theorem zfh{x:Str}{d:D}{v:V}{u:Value}{pos:Pos}(hg:Gl X x)(hm:X.mg x=some u)(r:RelV v u)(rp:∀H,Rep X.K H d v)(hd:(x ==("__debug__" : Str))=false:=by decide):DE X (.Name x pos) (dC d) :=
 DE.of (zoy hg hm r hd) λσ H H₀ σD QD ok q=>⟨d,Same.refl _,rp H,q⟩
def zph:DTF:=λ_ Q=>Q []
def zjk(t:DTE)(r:DTF):DTF:=λσ Q=>t σ λd=>r σ λds=>Q (d::ds)
theorem yi:DA X [] zph:=⟨λpos pins s σ H H₀ σD Q I ok q=>thn (vf pos pins s σ H (λvs H'=>vs = []/\H'=H) I ⟨rfl,rfl⟩) λus s' zq47=>by obtain⟨vs,H',I',r,e1,e2⟩:=zq47;subst e1 e2;exact⟨[],H',[],I',r,Same.refl _,.nil,q⟩⟩
theorem zt{t:DTE}{r:DTF}(ha:DE X e t)(hr:DA X es r)(hs:starEach (e::es) X.env=(false,eval e X.env)::starEach es X.env:=by rfl):DA X (e::es) (zjk t r):=⟨λpos pins s σ H H₀ σD Q I ok q=>by
 refine thn (xz ha.pe hr.pa hs pos pins s σ H (λvs H'=>∃ds,Same H H'/\Reps X.K H' ds vs/\Q ds) I ?_) λus s' zq19=>by obtain⟨vs,H',I',r,ds,sm,rp,qd⟩:=zq19;exact⟨vs,H',ds,I',r,sm,rp,qd⟩
 exact⟨H₀,σD,_,ok,q,λv H1 d s1 r1 q1=>⟨H₀,σD,_,ok.after s1,q1,λvs H2 ds s2 r2 q2=>⟨d::ds,s1.trans s2,.cons (r1.same s2) r2,q2⟩⟩⟩⟩
theorem zv:DAv X [] zph:=⟨λpos pins s σ H H₀ σD Q I ok q=>thn (vf pos pins s σ H (λvs H'=>vs = []/\H'=H) I ⟨rfl,rfl⟩) λus s' zq49=>by obtain⟨vs,H',I',r,e1,e2⟩:=zq49;subst e1 e2;exact⟨[],H',[],I',r,Same.refl _,.nil,q⟩⟩
theorem zg{t:DTE}{r:DTF}(ha:DV X e t)(hr:DAv X es r)(hs:starEach (e::es) X.env=(false,eval e X.env)::starEach es X.env:=by rfl):DAv X (e::es) (zjk t r):=⟨λpos pins s σ H H₀ σD Q I ok q=>by
 refine thn (xz ha.pe hr.pa hs pos pins s σ H (λvs H'=>∃ds,Same H H'/\RepTs X.K H' ds vs/\Q ds) I ?_) λus s' zq20=>by obtain⟨vs,H',I',r,ds,sm,rp,qd⟩:=zq20;exact⟨vs,H',ds,I',r,sm,rp,qd⟩
 exact⟨H₀,σD,_,ok,q,λv H1 d s1 r1 q1=>⟨H₀,σD,_,ok.after s1,q1,λvs H2 ds s2 r2 q2=>⟨d::ds,s1.trans s2,.cons (r1.same s2) r2,q2⟩⟩⟩⟩
def zgu:DTP:=λ_ Q=>Q []
def zjl(t:DTE)(r:DTP):DTP:=λσ Q=>t σ λd=>r σ λws=>Q (.val d::ws)
def zk7(i:Nat)(r:DTP):DTP:=λσ Q=>match σ[i]? with
 |some (some (.own (.lst xs)))=>r σ λws=>Q (.vw xs::ws)
 |some (some (.vw xs))=>r σ λws=>Q (.vw xs::ws)
 |some (some (.scr ns))=>r σ λws=>Q (.scr ns::ws)
 |some (some (.val d))=>r σ λws=>Q (.val d::ws)
 |some (some .pen)=>r σ λws=>Q (.pen::ws)
 |_=>False
theorem zm:DPs X [] zgu:=⟨λpos pins s σ H H₀ σD Q I ok q=>thn (vf pos pins s σ H (λvs H'=>vs = []/\H'=H) I ⟨rfl,rfl⟩) λus s' zq49=>by obtain⟨vs,H',I',r,e1,e2⟩:=zq49;subst e1 e2;exact⟨[],H',[],I',r,Same.refl _,.nil,q⟩⟩
theorem yx{t:DTE}{r:DTP}(ha:DE X e t)(hr:DPs X es r)(hs:starEach (e::es) X.env=(false,eval e X.env)::starEach es X.env:=by rfl):DPs X (e::es) (zjl t r):=⟨λpos pins s σ H H₀ σD Q I ok q=>by
 refine thn (xz ha.pe hr.pa hs pos pins s σ H (λvs H'=>∃ws,Same H H'/\RepWs X.K H' ws vs/\Q ws) I ?_) λus s' zq20=>by obtain⟨vs,H',I',r,ds,sm,rp,qd⟩:=zq20;exact⟨vs,H',ds,I',r,sm,rp,qd⟩
 exact⟨H₀,σD,_,ok,q,λv H1 d s1 r1 q1=>⟨H₀,σD,_,ok.after s1,q1,λvs H2 ds s2 r2 q2=>⟨.val d::ds,s1.trans s2,.cons (r1.same s2) r2,q2⟩⟩⟩⟩
theorem zi(i:Nat){x:Str}{pos:Pos}{r:DTP}(hr:DPs X es r)(hN:X.N[i]?=some x:=by rfl)(hv:Vis X.env.scope x:=by first|exact Or.inl rfl|exact Or.inr (Or.inl rfl)|exact Or.inr (Or.inr rfl))(hd:(x ==("__debug__" : Str))=false:=by decide)
  (hcd:(x ==("__classdict__" : Str))=false:=by decide) (hs:starEach (.Name x pos::es) X.env=(false,eval (.Name x pos) X.env)::starEach es X.env:=by rfl):DPs X (.Name x pos::es) (zk7 i r):=⟨λpos' pins s σ H H₀ σD Q I ok q=>by
 refine thn (xz (wc (i:=i) hN hv hd hcd) hr.pa hs pos' pins s σ H (λvs H'=>∃ws,Same H H'/\RepWs X.K H' ws vs/\Q ws) I ?_) λus s' zq46=>by obtain⟨vs,H',I',r,ds,sm,rp,qd⟩:=zq46;exact⟨vs,H',ds,I',r,sm,rp,qd⟩
 unfold zk7 at q
 split at q
 ·next xs e=>
  obtain⟨a,vs,e1,e2,r,_⟩:=ok.ownL e;exact⟨.ref a,e1,H₀,σD,_,ok,q,λws H2 ds s2 r2 q2=>⟨.vw xs::ds,s2,.cons (RepL.same s2 ⟨a,vs,rfl,.inl e2,r⟩) r2,q2⟩⟩
 ·next xs e=>
  obtain⟨v,e1,r⟩:=ok.vw e;exact⟨v,e1,H₀,σD,_,ok,q,λws H2 ds s2 r2 q2=>⟨.vw xs::ds,s2,.cons (RepL.same s2 r) r2,q2⟩⟩
 ·next ns e=>
  obtain⟨a,e1,r⟩:=ok.scr e;exact⟨.ref a,e1,H₀,σD,_,ok,q,λws H2 ds s2 r2 q2=>⟨.scr ns::ds,s2,.cons ⟨a,rfl,s2.seq r⟩ r2,q2⟩⟩
 ·next d e=>
  obtain⟨v,e1,r⟩:=ok.val e;exact⟨v,e1,H₀,σD,_,ok,q,λws H2 ds s2 r2 q2=>⟨.val d::ds,s2,.cons (r.same s2) r2,q2⟩⟩
 ·next e=>
  obtain⟨a,e1,r⟩:=ok.pen e;exact⟨.ref a,e1,H₀,σD,_,ok,q,λws H2 ds s2 r2 q2=>⟨.pen::ds,s2,.cons ⟨a,rfl,s2 _ _ r⟩ r2,q2⟩⟩
 ·exact q.elim⟩
def zsd(t:DTF):DTE:=λσ Q=>t σ λds=>ds.length<=sizeLine/\Q (.tuple ds)
def zse(t:DTF):DTF:=λσ Q=>t σ λds=>ds.length<=sizeLine/\Q ds
theorem vk{x1 pos}{t:DTF}(h:DA X es t):DE X (.Tuple es x1 pos) (zsd t) :=
 DE.of (zrw h.pa) λσ H H₀ σD QD ok q=>⟨H₀,σD,_,ok,q,λvs H1 ds s1 r1 q1=>⟨by rw[<-r1.length];exact q1.1,λp hp=>⟨.tuple ds,s1.trans (ya hp _),.tup (SqT.of zp) (r1.same (ya hp _)),q1.2⟩⟩⟩
theorem wu{pos}{t:DTF}(h:DA X es t):DF X (.List es pos) (zse t) :=
 DF.of (zrx h.pa) λσ H H₀ σD QD ok q=>⟨H₀,σD,_,ok,q,λvs H1 ds s1 r1 q1=>⟨by rw[<-r1.length];exact q1.1,λp hp=>⟨p,vs,ds,rfl,s1.trans (ya hp _),s1.free hp,zp,r1.same (ya hp _),q1.2⟩⟩⟩
variable {a b:Expr}{rest:List Expr}{pos:Pos}
def onB(Q:Bool->Prop):D->Prop
 |.bool b=>Q b
 |_=>False
def dTB(t:DTE):DTT:=λσ Q=>t σ (onB Q)
def zsf(t u:DTT):DTT:=λσ Q=>t σ λc=>if c=true then u σ Q else Q false
def dOr(t u:DTT):DTT:=λσ Q=>t σ λc=>if c=true then Q true else u σ Q
def zsg(t:DTT):DTT:=λσ Q=>t σ λc=>Q (!c)
theorem DWt.dt{t:DTT}(h:DWt X e t):DT X e t:=⟨h.run _⟩
theorem zjm{t:DTT}(ha:DT X a t):DWt X (.BoolOp .And [a] pos) t:=⟨λwh pins s σ H H₀ σD Q I ok q=>by
 refine isTrue_and (thn (ha.run pins s σ H H₀ σD Q I ok q) λc s1 e=>?_)
 cases c with
 |true=>exact isTrue_and_nil e
 |false=>exact e⟩
theorem vm{t:DTT}(ha:DT X a t):DWt X (.BoolOp .Or [a] pos) t:=⟨λwh pins s σ H H₀ σD Q I ok q=>by
 refine isTrue_or (thn (ha.run pins s σ H H₀ σD Q I ok q) λc s1 e=>?_)
 cases c with
 |false=>exact isTrue_or_nil e
 |true=>exact e⟩
theorem zm1{t u:DTT}(ha:DT X a t)(hb:DWt X (.BoolOp .And (b::rest) pos) u):DWt X (.BoolOp .And (a::b::rest) pos) (zsf t u):=⟨λwh pins s σ H H₀ σD Q I ok q=>by
 refine isTrue_and (thn (ha.run pins s σ H H₀ σD _ I ok q) λc s1 zr2=>?_);obtain⟨H1,I1,sm,q1⟩:=zr2
 cases c with
 |true=>
  rw[if_pos rfl]at q1;exact thn (hb.run wh pins s1 σ H1 H₀ σD Q I1 (ok.after sm) q1) λ_ _ zq67=>by obtain⟨H2,I2,s2,q2⟩:=zq67;exact⟨H2,I2,sm.trans s2,q2⟩
 |false=>rw[if_neg Bool.false_ne_true]at q1;exact⟨H1,I1,sm,q1⟩⟩
theorem qk{t u:DTT}(ha:DT X a t)(hb:DWt X (.BoolOp .Or (b::rest) pos) u):DWt X (.BoolOp .Or (a::b::rest) pos) (dOr t u):=⟨λwh pins s σ H H₀ σD Q I ok q=>by
 refine isTrue_or (thn (ha.run pins s σ H H₀ σD _ I ok q) λc s1 zr9=>?_);obtain⟨H1,I1,sm,q1⟩:=zr9
 cases c with
 |false=>
  rw[if_neg Bool.false_ne_true]at q1;exact thn (hb.run wh pins s1 σ H1 H₀ σD Q I1 (ok.after sm) q1) λ_ _ zq67=>by obtain⟨H2,I2,s2,q2⟩:=zq67;exact⟨H2,I2,sm.trans s2,q2⟩
 |true=>rw[if_pos rfl]at q1;exact⟨H1,I1,sm,q1⟩⟩
theorem w4{t:DTT}(ha:DT X a t):DT X (.UnaryOp .Not a pos) (zsg t):=⟨λpins s σ H H₀ σD Q I ok q=>isTrue_not (ha.run pins s σ H H₀ σD (λc=>Q (!c)) I ok q)⟩
def zm2:D->Bool
 |.none=>false
 |.bool b=>b
 |.int i=>i != 0
 |.str x=>(x.length:Int) != 0
 |.tuple xs=>!xs.isEmpty
 |.list xs=>!xs.isEmpty
 |.dict kvs=>!kvs.isEmpty
def zsh(t:DTE):DTT:=λσ Q=>t σ λd=>match d with
 |.str x=>x.length<=sizeLine/\Q (zm2 (.str x))
 |.dict _=>False
 |d=>Q (zm2 d)
theorem zh7{K:PySem.W.Frag}{H:Hp}{ds:List D}{vs:List V}(r:Reps K H ds vs):(!vs.isEmpty) = !ds.isEmpty:=by cases r <;> rfl
theorem j1{K:PySem.W.Frag}{H:Hp}{d:D}{v:V}(r:RepT K H d v)(h:match d with|.str x=>x.length<=sizeLine|.dict _=>False|_=>True):zrt K v H (zm2 d):=by
 rcases r with r |⟨xs,rfl,a,vs,rfl,e,r⟩
 ·cases r with
  |non=>rfl
  |bl=>rfl
  |int=>rfl
  |str=>exact⟨h,rfl⟩
  |tup q r=>exact .inr (.inl ⟨_,q,(zh7 r).symm⟩)
  |lst q r=>exact .inl ⟨_,.inl (.inr ⟨_,q⟩),(zh7 r).symm⟩
  |dic q r=>exact h.elim
 ·exact .inl ⟨vs,.inl e,(zh7 r).symm⟩
theorem wn{t:DTE}(h:DV X e t)(he:∀whole,isTrue e X.env whole=(do let v <-whole;standAt e.pos;holding [v] (truthy v)):=by intro _;rfl):DT X e (zsh t) :=
 DT.of (zml h.pe he) λσ H H₀ σD QD ok q=>⟨H₀,σD,_,ok,q,λv H1 d s1 r1 q1=>by
  cases d with
  |str x=>exact⟨_,j1 r1 q1.1,s1,q1.2⟩
  |dict _=>exact q1.elim
  |none=>exact⟨_,j1 r1 trivial,s1,q1⟩
  |bool _=>exact⟨_,j1 r1 trivial,s1,q1⟩
  |int _=>exact⟨_,j1 r1 trivial,s1,q1⟩
  |tuple _=>exact⟨_,j1 r1 trivial,s1,q1⟩
  |list _=>exact⟨_,j1 r1 trivial,s1,q1⟩⟩
def zm3(t u:DTE):DTE:=λσ Q=>t σ λd=>match d with
 |.bool c=>if c=true then u σ Q else Q (.bool false)
 |_=>False
def zsi(t u:DTE):DTE:=λσ Q=>t σ λd=>match d with
 |.bool c=>if c=true then Q (.bool true) else u σ Q
 |_=>False
def zsj(c:DTT)(t u:DTE):DTE:=λσ Q=>c σ λb=>if b=true then t σ Q else u σ Q
theorem zcv{op}{t:DTE}(h:DE X a t):DE X (.BoolOp op [a] pos) t:=⟨λpins s σ H H₀ σD Q I ok q=>BoolOp_one (h.run pins s σ H H₀ σD Q I ok q)⟩
theorem DEnd.back{pins:List (Addr×Obj)}{σ:St}{H H1:Hp}{Q:D->Prop}{u:Value}{s':Shared}(s1:Same H H1)(h:DEnd X pins σ H1 Q u s'):DEnd X pins σ H Q u s':=let ⟨v,H',d,I',r,sm,rp,qd⟩:=h;⟨v,H',d,I',r,s1.trans sm,rp,qd⟩
theorem zcw{t u:DTE}(ha:DE X a t)(hb:DE X (.BoolOp .And (b::rest) pos) u):DE X (.BoolOp .And (a::b::rest) pos) (zm3 t u):=⟨λpins s σ H H₀ σD Q I ok q=>by
 refine BoolOp_and (thn (ha.run pins s σ H H₀ σD _ I ok q) λv s1 zr64=>?_);obtain⟨x,H1,d,I1,r1,sm,rp,q1⟩:=zr64
 cases d with
 |bool c=>
  cases rp
  cases r1;refine wpAny_truthy_bool ?_
  cases c with
  |true=>exact thn (hb.run pins s1 σ H1 H₀ σD Q I1 (ok.after sm) (by simpa using q1)) λ_ _ h=>h.back sm
  |false=>exact⟨.bl false,H1,.bool false,I1,rfl,sm,.bl,by simpa using q1⟩
 |_=>exact q1.elim⟩
theorem zu3{t u:DTE}(ha:DE X a t)(hb:DE X (.BoolOp .Or (b::rest) pos) u):DE X (.BoolOp .Or (a::b::rest) pos) (zsi t u):=⟨λpins s σ H H₀ σD Q I ok q=>by
 refine BoolOp_or (thn (ha.run pins s σ H H₀ σD _ I ok q) λv s1 zr75=>?_);obtain⟨x,H1,d,I1,r1,sm,rp,q1⟩:=zr75
 cases d with
 |bool c=>
  cases rp
  cases r1;refine wpAny_truthy_bool ?_
  cases c with
  |false=>exact thn (hb.run pins s1 σ H1 H₀ σD Q I1 (ok.after sm) (by simpa using q1)) λ_ _ h=>h.back sm
  |true=>exact⟨.bl true,H1,.bool true,I1,rfl,sm,.bl,by simpa using q1⟩
 |_=>exact q1.elim⟩
theorem zm4{c:Expr}{tc:DTT}{t u:DTE}(hc:DT X c tc)(ha:DE X a t)(hb:DE X b u):DE X (.IfExp c a b pos) (zsj tc t u) :=
 DE.of (zmc hc.pt ha.pe hb.pe) λσ H H₀ σD QD ok q=>⟨H₀,σD,_,ok,q,λk H1 s1 q1=>by
  cases k with
  |true=>rw[if_pos rfl]at q1 ⊢;exact⟨H₀,σD,_,ok.after s1,q1,λv H2 d s2 r2 q2=>⟨d,s1.trans s2,r2,q2⟩⟩
  |false=>rw[if_neg Bool.false_ne_true]at q1 ⊢;exact⟨H₀,σD,_,ok.after s1,q1,λv H2 d s2 r2 q2=>⟨d,s1.trans s2,r2,q2⟩⟩⟩
end
section
variable {X:Cx}{pins:List (Addr×Obj)}{σ:St}{H:Hp}{s:Shared}
theorem Reps.readsW(I:Inv X pins σ H s){ds:List D}{vs:List V}(h:Reps X.K H ds vs)(k:∀d∈ds,∀(v:V) (u:Value),Rep X.K H d v->RelV v u->d.canLay0=true->∃as,Reads s.heap u d as){us:List Value}(r:Vals vs us)(c:PyData.canLayAll0 ds=true):∃as,ReadsAll s.heap us ds as:=by
 induction ds generalizing vs us with
 |nil=>cases h;cases r;exact⟨_,.nil⟩
 |cons d ds ih=>
  cases h with
  |cons q t=>
   cases r with
   |cons r1 r2=>
    simp only[PyData.canLayAll0,Bool.and_eq_true]at c;obtain⟨as,ra⟩:=k d List.mem_cons_self _ _ q r1 c.1;obtain⟨bs,rb⟩:=ih t (λx hx=>k x (List.mem_cons_of_mem _ hx)) r2 c.2;exact⟨_,.cons ra rb⟩
theorem Rep.reads(I:Inv X pins σ H s){d:D}{v:V}{u:Value}(h:Rep X.K H d v)(r:RelV v u)(c:d.canLay0=true):∃as,Reads s.heap u d as:=by
 refine Rep.rec (motive_1:=λd v _=>∀u:Value,RelV v u->d.canLay0=true->∃as,Reads s.heap u d as) (motive_2:=λds vs _=>∀us:List Value,Vals vs us->PyData.canLayAll0 ds=true->∃as,ReadsAll s.heap us ds as) (motive_3:=λ_ _ _=>True)
  ?_ ?_ ?_ ?_ ?_ ?_ ?_ ?_ ?_ trivial (λ_ _ _ _=>trivial) h u r c
 ·intro u r _;cases r;exact⟨_,.none⟩
 ·intro b u r _;cases r;exact⟨_,.bool _⟩
 ·intro i u r _;obtain⟨t,rfl⟩:=r;exact⟨_,.int _ _⟩
 ·intro x u r _;obtain⟨t,rfl⟩:=r;exact⟨_,.str _ _⟩
 ·intro xs a vs h q ih u r c
  cases r;obtain⟨its,rv,⟨o,e1,e2,n,e3⟩,_⟩:=I.tuple h;obtain⟨as,ra⟩:=ih its rv (by simpa[PyData.canLay0]using c);exact⟨_,.tuple e1 e2 e3 (by simpa using ra)⟩
 ·intro xs a vs o h q ih u r c
  cases r;obtain⟨_,z,its,n,rv,e⟩:=I.hok _ _ h;obtain⟨as,ra⟩:=ih its rv (by simpa[PyData.canLay0]using c);exact⟨_,.list e rfl rfl (by simpa using ra)⟩
 ·intro kvs a kws o h q ih u r c;simp[PyData.canLay0]at c
 ·intro us r _;cases r;exact⟨_,.nil⟩
 ·intro d v ds vs q t i j us r c
  cases r with
  |cons r1 r2=>
   simp only[PyData.canLayAll0,Bool.and_eq_true]at c;obtain⟨as,ra⟩:=i _ r1 c.1;obtain⟨bs,rb⟩:=j _ r2 c.2;exact⟨_,.cons ra rb⟩
theorem Reps.reads(I:Inv X pins σ H s){ds:List D}{vs:List V}{us:List Value}(h:Reps X.K H ds vs)(r:Vals vs us)(c:PyData.canLayAll0 ds=true):∃as,ReadsAll s.heap us ds as:=h.readsW I (λ_ _ _ _ q r c=>q.reads I r c) r c
theorem RepT.reads(I:Inv X pins σ H s){d:D}{v:V}{u:Value}(h:RepT X.K H d v)(r:RelV v u)(c:d.canLay0=true):∃as,Reads s.heap u d as:=by
 rcases h with h |⟨xs,rfl,a,vs,rfl,e,q⟩
 ·exact h.reads I r c
 ·cases r;obtain⟨z,its,n,rv,e⟩:=e.ok I.hok;obtain⟨as,ra⟩:=Reps.reads I q rv (by simpa[PyData.canLay0]using c);exact⟨_,.list e rfl rfl (by simpa using ra)⟩
end
def Lay(d:D):Prop:=SeqAt.shaped d=true
theorem Lay.can{d:D}(h:Lay d):d.canLay0=true:=by unfold Lay SeqAt.shaped at h;rw[Bool.and_eq_true]at h;exact h.1
theorem Lay.deep{d:D}(h:Lay d):d.depth<=64:=by unfold Lay SeqAt.shaped at h;rw[Bool.and_eq_true]at h;exact of_decide_eq_true h.2
abbrev DOp:=D->D->(D->Prop)->Prop
structure OpD(X:Cx)(f:Value->Value->Sem Value)(g:DOp):Prop where
 run:∀(pins:List (Addr×Obj)) (s:Shared) (σ:St) (H:Hp) (x y:V) (v u:Value) (a b:D) (Q:D->Prop),Inv X pins σ H s->RelV x v->RelV y u->RepT X.K H a x->RepT X.K H b y->g a b Q->wpAny (model X.prog X.w) X.A (f v u) (DEnd X pins σ H Q) X.xe s
structure OpF(X:Cx)(f:Value->Value->Sem Value)(g:D->D->(List D->Prop)->Prop):Prop where
 run:∀(pins:List (Addr×Obj)) (s:Shared) (σ:St) (H:Hp) (x y:V) (v u:Value) (a b:D) (Q:List D->Prop),Inv X pins σ H s->RelV x v->RelV y u->RepT X.K H a x->RepT X.K H b y->g a b Q->wpAny (model X.prog X.w) X.A (f v u) (zel X pins σ H Q) X.xe s
def dOp(g:DOp)(ta tb:DTE):DTE:=λσ Q=>ta σ λa=>tb σ λb=>g a b Q
section
variable {X:Cx}{a b c:Expr}{ta tb tc:DTE}{pos:Pos}
theorem OpD.of{f:Value->Value->Sem Value}{r:R2}{g:DOp}(h:OpR X f r)(k:∀x y H a b Q,RepT X.K H a x->RepT X.K H b y->g a b Q->r x y H (λv H'=>∃d,Same H H'/\Rep X.K H' d v/\Q d)):OpD X f g :=
 ⟨λpins s σ H x y v u a b Q I rx ry ra rb q=>thn (h pins s σ H x y v u _ I rx ry (k x y H a b Q ra rb q)) λw s' zq15=>by obtain⟨z,H',I',rz,d,sm,rp,qd⟩:=zq15;exact⟨z,H',d,I',rz,sm,rp,qd⟩⟩
theorem OpF.of{f:Value->Value->Sem Value}{r:R2}{g:D->D->(List D->Prop)->Prop}(h:OpR X f r)(k:∀x y H a b Q,RepT X.K H a x->RepT X.K H b y->g a b Q->r x y H (λv H'=>∃p vs xs,v=.ref p/\Same H H'/\H p=none/\H' p=some (.lst vs)/\Reps X.K H' xs vs/\Q xs)):OpF X f g :=
 ⟨λpins s σ H x y v u a b Q I rx ry ra rb q=>thn (h pins s σ H x y v u _ I rx ry (k x y H a b Q ra rb q)) λw s' zq15=>by obtain⟨z,H',I',rz,p,vs,xs,ez,sm,n,e,rp,qd⟩:=zq15;exact⟨p,H',vs,xs,by subst ez;exact rz,I',sm,n,e,rp,qd⟩⟩
theorem OpF.opD{f:Value->Value->Sem Value}{g:D->D->(List D->Prop)->Prop}(h:OpF X f g):OpD X f (λa b Q=>g a b λxs=>Q (.list xs)) :=
 ⟨λpins s σ H x y v u a b Q I rx ry ra rb q=>thn (h.run pins s σ H x y v u a b _ I rx ry ra rb q) λw s' zq7=>by
  obtain⟨p,H',vs,xs,ew,I',sm,n,e,rp,qd⟩:=zq7;obtain⟨H'',J,sm',r'⟩:=zal I' sm n e rp;exact⟨.ref p,H'',.list xs,J,ew,sm',r',qd⟩⟩
theorem zu4{ta tb:DTE}(ha:DV X a ta)(hb:DV X b tb){pins:List (Addr×Obj)}{s:Shared}{σ:St}{H H₀:Hp}{σD:DSt}{R:D->D->Prop}(I:Inv X pins σ H s)(ok:DOk X.K H₀ H σD σ)(h:ta σD λx=>tb σD λy=>R x y)
  {α:Type}{Q:α->Shared->Prop}{f:Value->Value->Sem α}
  (hf:∀v u s2 x y H2 d e,Inv X pins σ H2 s2->RelV x v->RelV y u->Same H H2->RepT X.K H2 d x->RepT X.K H2 e y->R d e->wpAny (model X.prog X.w) X.A (f v u) Q X.xe s2) :
  wpAny (model X.prog X.w) X.A (eval a X.env) (λv s₁=>wpAny (model X.prog X.w) X.A (eval b X.env) (λu s₂=>wpAny (model X.prog X.w) X.A (f v u) Q X.xe s₂) X.xe s₁) X.xe s:=by
 refine thn (ha.run pins s σ H H₀ σD _ I ok h) λv s1 zr1=>?_;obtain⟨x,H1,d,I1,r1,sm1,p1,q1⟩:=zr1;refine thn (hb.run pins s1 σ H1 H₀ σD _ I1 (ok.after sm1) q1) λu s2 zr2=>?_;obtain⟨y,H2,e,I2,r2,sm2,p2,q2⟩:=zr2;exact hf v u s2 x y H2 d e I2 r1 r2 (sm1.trans sm2) (p1.same sm2) p2 q2
theorem yv{op:Operator}{g:DOp}(ho:OpD X (binaryOp op) g)(ha:DV X a ta)(hb:DV X b tb):DE X (.BinOp a op b pos) (dOp g ta tb) :=
 ⟨λpins s σ H H₀ σD Q I ok q=>wpAny_BinOp (zu4 ha hb I ok q λv u s2 x y H2 d e I2 rx ry sm rd re qd=>thn (ho.run pins s2 σ H2 x y v u d e Q I2 rx ry rd re qd) λ_ _ z=>z.back sm)⟩
theorem wv{op:CmpOp}{g:DOp}(ho:OpD X (compareOp op) g)(ha:DV X a ta)(hb:DV X b tb)(hm:behindInMarks op b=false):DE X (.Compare a [op] [b] pos) (dOp g ta tb) :=
 ⟨λpins s σ H H₀ σD Q I ok q=>wpAny_Compare1 (zu4 ha hb I ok q λv u s2 x y H2 d e I2 rx ry sm rd re qd=>thn (ho.run pins s2 σ H2 x y v u d e Q I2 rx ry rd re qd) λ_ _ z=>z.back sm) hm⟩
theorem yr{op:CmpOp}{g:DOp}(ho:OpD X (compareOp op) g)(ha:DV X a ta)(hb:DV X b tb)(hm:behindInMarks op b=false):DT X (.Compare a [op] [b] pos) (dTB (dOp g ta tb)) :=
 ⟨λpins s σ H H₀ σD Q I ok q=>by
  refine wpAny_isTrue_Compare1 (thn (ha.run pins s σ H H₀ σD _ I ok q) λv s1 ⟨x,H1,d,I1,r1,sm1,p1,q1⟩=>thn (hb.run pins s1 σ H1 H₀ σD _ I1 (ok.after sm1) q1) λu s2 ⟨y,H2,e,I2,r2,sm2,p2,q2⟩=>
   thn (ho.run pins s2 σ H2 x y v u d e _ I2 r1 r2 (p1.same sm2) p2 q2) λk s3 ⟨z,H3,dz,I3,r3,sm3,p3,q3⟩=>?_) hm
  cases dz with
  |bool k=>
   cases p3
   cases r3;exact wpAny_truthy_bool ⟨H3,I3,(sm1.trans sm2).trans sm3,q3⟩
  |_=>exact q3.elim⟩
def zh8(g g':DOp)(ta tb tc:DTE):DTE:=λσ Q=>ta σ λa=>tb σ λb=>g a b λz=>match z with
 |.bool k=>if k=true then tc σ λc=>g' b c Q else Q (.bool false)
 |_=>False
theorem zm5{op op':CmpOp}{g g':DOp}(ho:OpD X (compareOp op) g)(ho':OpD X (compareOp op') g')(ha:DV X a ta)(hb:DV X b tb)(hc:DV X c tc)
  (hm:lastMarks [op,op'] [b,c]=false:=by with_unfolding_all rfl):DE X (.Compare a [op,op'] [b,c] pos) (zh8 g g' ta tb tc):=⟨λpins s σ H H₀ σD Q I ok q=>by
 refine Compare_chain (thn (ha.run pins s σ H H₀ σD _ I ok q) λv s1 ⟨x,H1,d,I1,r1,sm1,p1,q1⟩=>chain_link (thn (hb.run pins s1 σ H1 H₀ σD _ I1 (ok.after sm1) q1) λu s2 ⟨y,H2,e,I2,r2,sm2,p2,q2⟩=>
  thn (ho.run pins s2 σ H2 x y v u d e _ I2 r1 r2 (p1.same sm2) p2 q2) λk s3 ⟨z,H3,dz,I3,r3,sm3,p3,q3⟩=>?_)) hm
 cases dz with
 |bool k=>
  cases p3
  cases r3;refine wpAny_truthy_bool ?_
  cases k with
  |false=>exact ite_ff ⟨.bl false,H3,.bool false,I3,rfl,(sm1.trans sm2).trans sm3,.bl,by simpa using q3⟩
  |true=>
   refine ite_tt (chain_last (thn (hc.run pins s3 σ H3 H₀ σD (λc=>g' e c Q) I3 (ok.after ((sm1.trans sm2).trans sm3)) (by simpa using q3)) λw' s4 zr36=>?_));obtain⟨z',H4,f,I4,r4,sm4,p4,q4⟩:=zr36;exact thn (ho'.run pins s4 σ H4 y z' u w' e f Q I4 r2 r4 ((p2.same sm3).same sm4) p4 q4) λ_ _ z=>z.back (((sm1.trans sm2).trans sm3).trans sm4)
 |_=>exact q3.elim⟩
def dUn(g:D->(D->Prop)->Prop)(ta:DTE):DTE:=λσ Q=>ta σ λa=>g a Q
def zsk:D->(D->Prop)->Prop
 |.int i,Q=>Q (.int (-i))
 |_,_=>False
theorem zbj(ha:DE X a ta):DE X (.UnaryOp .USub a pos) (dUn zsk ta) :=
 DE.of (zug zrq ha.pe) λσ H H₀ σD QD ok q=>⟨H₀,σD,_,ok,q,λv H1 d s1 r1 q1=>by
  cases d with
  |int i=>cases r1;exact⟨i,rfl,.int (-i),s1,.int,q1⟩
  |_=>exact q1.elim⟩
def zsl:D->(D->Prop)->Prop
 |.bool b,Q=>Q (.bool (!b))
 |_,_=>False
theorem zsm(ha:DE X a ta):DE X (.UnaryOp .Not a pos) (dUn zsl ta) :=
 DE.of (zrj ha.pe) λσ H H₀ σD QD ok q=>⟨H₀,σD,_,ok,q,λv H1 d s1 r1 q1=>by
  cases d with
  |bool i=>cases r1;exact⟨i,rfl,.bool (!i),s1,.bl,q1⟩
  |_=>exact q1.elim⟩
theorem RepT.int{K:PySem.W.Frag}{H:Hp}{i:Int}{v:V}(h:RepT K H (.int i) v):v=.int i:=by
 rcases h with h |⟨_,e,_⟩
 ·cases h;rfl
 ·cases e
theorem RepT.str{K:PySem.W.Frag}{H:Hp}{i:Str}{v:V}(h:RepT K H (.str i) v):v=.str i:=by
 rcases h with h |⟨_,e,_⟩
 ·cases h;rfl
 ·cases e
theorem RepT.bool{K:PySem.W.Frag}{H:Hp}{i:Bool}{v:V}(h:RepT K H (.bool i) v):v=.bl i:=by
 rcases h with h |⟨_,e,_⟩
 ·cases h;rfl
 ·cases e
theorem RepT.none{K:PySem.W.Frag}{H:Hp}{v:V}(h:RepT K H .none v):v=.non:=by
 rcases h with h |⟨_,e,_⟩
 ·cases h;rfl
 ·cases e
theorem RepT.tuple{K:PySem.W.Frag}{H:Hp}{xs:List D}{v:V}(h:RepT K H (.tuple xs) v):∃a vs,v=.ref a/\SqT K H a vs/\Reps K H xs vs:=by
 rcases h with h |⟨_,e,_⟩
 ·cases h with
  |tup h r=>exact⟨_,_,rfl,h,r⟩
 ·cases e
def gII(C:Int->Int->Prop)(f:Int->Int->D):DOp
 |.int i,.int j,Q=>C i j/\Q (f i j)
 |_,_,_=>False
def zfi(f:Int->Int->D):DOp
 |.int i,.int j,Q=>Q (f i j)
 |_,_,_=>False
theorem OpD.ii{f:Value->Value->Sem Value}{C:Int->Int->Prop}{g:Int->Int->Int}(h:OpR X f (rI C λi j=>.int (g i j))):OpD X f (gII C λi j=>.int (g i j)) :=
 OpD.of h λx y H a b Q ra rb q=>by
  cases a with
  |int i=>
   cases b with
   |int j=>cases ra.int;cases rb.int;exact⟨i,j,rfl,rfl,q.1,.int _,Same.refl _,.int,q.2⟩
   |_=>exact q.elim
  |_=>exact q.elim
theorem OpD.ii0{f:Value->Value->Sem Value}{g:Int->Int->Int}(h:OpR X f (rI0 λi j=>.int (g i j))):OpD X f (zfi λi j=>.int (g i j)) :=
 OpD.of h λx y H a b Q ra rb q=>by
  cases a with
  |int i=>
   cases b with
   |int j=>cases ra.int;cases rb.int;exact⟨i,j,rfl,rfl,.int _,Same.refl _,.int,q⟩
   |_=>exact q.elim
  |_=>exact q.elim
theorem OpD.ib0{f:Value->Value->Sem Value}{g:Int->Int->Bool}(h:OpR X f (rI0 λi j=>.bl (g i j))):OpD X f (zfi λi j=>.bool (g i j)) :=
 OpD.of h λx y H a b Q ra rb q=>by
  cases a with
  |int i=>
   cases b with
   |int j=>cases ra.int;cases rb.int;exact⟨i,j,rfl,rfl,.bool _,Same.refl _,.bl,q⟩
   |_=>exact q.elim
  |_=>exact q.elim
theorem zcx:OpD X (binaryOp .Sub) (zfi λi j=>.int (i-j)):=OpD.ii0 zrn
theorem zm6:OpD X (binaryOp .Mod) (gII (λ_ j=>0<j) λi j=>.int (i % j)):=OpD.ii zhz
theorem zu5:OpD X (binaryOp .Pow) (gII zui λi j=>.int (i ^ j.toNat)):=OpD.ii zrp
theorem zk8:OpD X (compareOp .Lt) (zfi λi j=>.bool (decide (i<j))):=OpD.ib0 zuk
theorem zfj:OpD X (compareOp .LtE) (zfi λi j=>.bool (decide (i<=j))):=OpD.ib0 zul
theorem zh9:OpD X (compareOp .Gt) (zfi λi j=>.bool (decide (j<i))):=OpD.ib0 zqw
theorem zu6:OpD X (compareOp .GtE) (zfi λi j=>.bool (decide (j<=i))):=OpD.ib0 zum
def zsn:D->D->(List D->Prop)->Prop
 |.list xs,.list ys,Q=>xs.length+ys.length<=sizeLine/\Q (xs++ys)
 |_,_,_=>False
theorem zpi:OpR X (binaryOp .Add) (λx y H Q=>∃l b xs zs,x=.ref l/\y=.ref b/\Rd H l (.lst xs)/\Rd H b (.lst zs)/\xs.length+zs.length<=sizeLine/\∀p,H p=none->Q (.ref p) (upd H p (.lst (xs++zs)))):=by
 intro pins s σ H x y v u Q I rx ry h;obtain⟨l,b,xs,zs,rfl,rfl,hH,hB,hz,q⟩:=h
 cases rx
 cases ry;obtain⟨z,its,n,r,e⟩:=hH.ok I.hok;obtain⟨z2,its2,n2,r2,e2⟩:=hB.ok I.hok;have hl:=r.length;have hl2:=r2.length;refine PySem.P.add_list e e2 ?_ (by rw[List.size_toArray,List.size_toArray];omega);have ea:its.toArray++its2.toArray=(its++its2).toArray:=by simp
 rw[ea];exact⟨.ref _,_,I.lnew (t':=s.toks) (r.append r2) (by rw[List.length_append];omega),rfl,q _ I.fresh⟩
theorem f_cat:OpF X (binaryOp .Add) zsn:=OpF.of zpi λx y H a b Q ra rb q=>by
 cases a with
 |list xs=>
  cases b with
  |list ys=>
   obtain⟨l,vs,rfl,hl,r1⟩:=ra.list;obtain⟨m,ws,rfl,hm,r2⟩:=rb.list;exact⟨l,m,vs,ws,rfl,rfl,hl,hm,by rw[<-r1.length,<-r2.length];exact q.1,λp hp=>⟨p,_,xs++ys,rfl,ya hp _,hp,zp,(r1.append r2).same (ya hp _),q.2⟩⟩
  |_=>exact q.elim
 |_=>exact q.elim
def zso:D->D->(List D->Prop)->Prop
 |.list xs,.int k,Q=>-(2 ^ 63)<=k/\k<2 ^ 63/\xs.length * k.toNat<=sizeLine/\Q (List.replicate k.toNat xs).flatten
 |_,_,_=>False
theorem zpj:OpR X (binaryOp .Mult) (λx y H Q=>∃l k xs,x=.ref l/\y=.int k/\Rd H l (.lst xs)/\-(2 ^ 63)<=k/\k<2 ^ 63/\xs.length * k.toNat<=sizeLine /\
 ∀p,H p=none->Q (.ref p) (upd H p (.lst (List.replicate k.toNat xs).flatten))):=by
 intro pins s σ H x y v u Q I rx ry h;obtain⟨l,k,xs,rfl,rfl,hH,h1,h2,hz,q⟩:=h
 cases rx;obtain⟨t,rfl⟩:=ry;obtain⟨z,its,n,r,e⟩:=hH.ok I.hok;have hl:=r.length;have hlen:its.toArray.size * k.toNat<=sizeLine:=by rw[List.size_toArray,<-hl];exact hz
 have hcap:¬ its.toArray.size * k.toNat >(2 ^ 63-1) / 8:=by
  have:(sizeLine:Nat)<=(2 ^ 63-1) / 8:=by decide
  omega
 have hfit:¬ (!Builtin.List.listFitsIndex k)=true:=by
  rw[fitsIndex_both h1 h2];exact Bool.false_ne_true
 have hlong:¬ Builtin.List.listTooLong (its.toArray.size * k.toNat)=true:=by
  rw[zmq hlen];exact Bool.false_ne_true
 have hnew:List.foldl (λx1 x2=>x1++x2) #[] (List.replicate (if its.toArray.isEmpty=true then 0 else k.toNat) its.toArray)=(List.replicate k.toNat its).flatten.toArray:=by
  have f0:∀m:Nat,List.foldl (λx1 x2=>x1++x2) #[] (List.replicate m its.toArray)=(List.replicate m its).flatten.toArray:=λm=>by
   have:=zei its m [];rw[List.nil_append]at this;exact this
  rw[f0]
  cases its with
  |nil=>simp
  |cons a r'=>rw[if_neg (by simp)]
 refine wpAny_binaryOp_repeat_ref (T := "list") (U := "int") (by decide) ⟨_,e,rfl⟩ (λs'=>typeIs_int s' k t) noFill_list_mul F.fills_int_mul F.slot_int_rmul repeat_list F.slot_int_index.lookup
  (call_meets F.slot_int_rmul (typeIs_int s k t) F.entry_int_rmul (F.args_int_rmul_2 _ _) (int___rmul___int_list k t l its.toArray n)
   ⟨e,rfl,⟨_,e,rfl⟩,call_meets F.slot_list_mul ⟨_,e,rfl⟩ F.entry_list_mul (F.args_list_mul_2 _ _) (AutoListH.list___mul___list_int_3 l its.toArray n k t hfit hcap hlong) ⟨e,?_⟩⟩)
 rw[hnew];exact⟨.ref _,_,I.lnew (t':=s.toks) (r.rep k.toNat) (by rw[zpa,Nat.mul_comm];exact hz),rfl,q _ I.fresh⟩
theorem f_rep:OpF X (binaryOp .Mult) zso:=OpF.of zpj λx y H a b Q ra rb q=>by
 cases a with
 |list xs=>
  cases b with
  |int k=>
   obtain⟨l,vs,rfl,hl,r1⟩:=ra.list
   cases rb.int;obtain⟨h1,h2,h3,q⟩:=q;exact⟨l,k,vs,rfl,rfl,hl,h1,h2,by rw[<-r1.length];exact h3,λp hp=>⟨p,_,_,rfl,ya hp _,hp,zp,(r1.rep k.toNat).same (ya hp _),q⟩⟩
  |_=>exact q.elim
 |_=>exact q.elim
def zsp:DOp
 |.int i,.int j,Q=>Q (.int (i+j))
 |.str x,.str y,Q=>x.length+y.length<=sizeLine/\Q (.str (x++y))
 |.tuple xs,.tuple ys,Q=>xs.length+ys.length<=sizeLine/\Q (.tuple (xs++ys))
 |.list xs,.list ys,Q=>xs.length+ys.length<=sizeLine/\Q (.list (xs++ys))
 |_,_,_=>False
theorem zpk:OpR X (binaryOp .Add) (λx y H Q=>∃a b xs ys,x=.ref a/\y=.ref b/\SqT X.K H a xs/\SqT X.K H b ys/\xs.length+ys.length<=sizeLine/\∀p H',Same H H'->SqT X.K H' p (xs++ys)->Q (.ref p) H'):=by
 intro pins s σ H x y v u Q I rx ry h;obtain⟨a,b,xs,ys,rfl,rfl,ha,hb,hz,q⟩:=h
 cases rx
 cases ry;obtain⟨its,r1,p1,_⟩:=I.tuple ha;obtain⟨its2,r2,p2,_⟩:=I.tuple hb
 by_cases hx:xs = []
 ·obtain⟨⟨cls,dd,data,sl⟩,ho,hc,n,hd⟩:=id p1;obtain⟨⟨cls2,dd2,data2,sl2⟩,ho2,hc2,n2,hd2⟩:=id p2;simp only at hc hd hc2 hd2;subst hc hd hc2 hd2;have hv:its = []:=r1.nil_iff.mpr hx;refine concat_meets ⟨_,ho,rfl⟩ ⟨_,ho2,rfl⟩ noFill_tuple_add seq_tuple_add PySem.F.slot_tuple_add PySem.F.entry_tuple_add (PySem.F.args_tuple_add_2 _ _) (tuple_addW0 a b its.toArray its2.toArray n n2 dd dd2 sl sl2 (by simp[hv])) ⟨ho,ho2,?_⟩;exact⟨.ref b,H,I,rfl,q b H (Same.refl H) (by rw[hx,List.nil_append];exact hb)⟩
 ·refine HT.cat_tup p1 p2 (λz=>hx (r1.nil_iff.mp z)) (λz=>⟨.ref a,H,I,rfl,q a H (Same.refl H) (by rw[r2.nil_iff.mp z,List.append_nil];exact ha)⟩) (λz=>?_) (by rw[<-r1.length,<-r2.length];exact hz);refine⟨.ref s.heap.objs.size,_,I.laid (t':=s.toks) (o:=.tup (xs++ys)) (λb ob q=>Heap.get?_push_of_some _ q) (Nat.le_refl _) ?_,rfl,q _ _ (ya (I.hok.fresh (Nat.le_refl _)) _) (SqT.of zp)⟩;exact⟨by rw[List.length_append];exact hz,_,r1.append r2,TupD.new _ _⟩
theorem o_catT:OpD X (binaryOp .Add) (λa b Q=>match a,b with|.tuple xs,.tuple ys=>xs.length+ys.length<=sizeLine/\Q (.tuple (xs++ys))|_,_=>False):=OpD.of zpk λx y H a b Q ra rb q=>by
 cases a with
 |tuple xs=>
  cases b with
  |tuple ys=>
   obtain⟨l,vs,rfl,hl,r1⟩:=ra.tuple;obtain⟨m,ws,rfl,hm,r2⟩:=rb.tuple;exact⟨l,m,vs,ws,rfl,rfl,hl,hm,by rw[<-r1.length,<-r2.length];exact q.1,λp H' sm e=>⟨_,sm,.tup e ((r1.append r2).same sm),q.2⟩⟩
  |_=>exact q.elim
 |_=>exact q.elim
theorem o_addS:OpD X (binaryOp .Add) (λa b Q=>match a,b with|.str x,.str y=>x.length+y.length<=sizeLine/\Q (.str (x++y))|_,_=>False):=OpD.of zh1 λx y H a b Q ra rb q=>by
 cases a with
 |str xs=>
  cases b with
  |str ys=>cases ra.str;cases rb.str;exact⟨_,_,rfl,rfl,q.1,.str _,Same.refl _,.str,q.2⟩
  |_=>exact q.elim
 |_=>exact q.elim
theorem xy:OpD X (binaryOp .Add) zsp:=⟨λpins s σ H x y v u a b Q I rx ry ra rb q=>by
 cases a with
 |int i=>cases b with
  |int j=>exact(OpD.ii0 zmj).run pins s σ H x y v u _ _ Q I rx ry ra rb q
  |_=>exact q.elim
 |str i=>cases b with
  |str j=>exact o_addS.run pins s σ H x y v u _ _ Q I rx ry ra rb q
  |_=>exact q.elim
 |tuple i=>cases b with
  |tuple j=>exact o_catT.run pins s σ H x y v u _ _ Q I rx ry ra rb q
  |_=>exact q.elim
 |list i=>cases b with
  |list j=>exact f_cat.opD.run pins s σ H x y v u _ _ Q I rx ry ra rb q
  |_=>exact q.elim
 |_=>exact q.elim⟩
def zsq:DOp
 |.int i,.int j,Q=>CMul i j/\Q (.int (i * j))
 |.list xs,.int k,Q=>-(2 ^ 63)<=k/\k<2 ^ 63/\xs.length * k.toNat<=sizeLine/\Q (.list (List.replicate k.toNat xs).flatten)
 |_,_,_=>False
theorem zm7:OpD X (binaryOp .Mult) zsq:=⟨λpins s σ H x y v u a b Q I rx ry ra rb q=>by
 cases a with
 |int i=>cases b with
  |int j=>exact(OpD.ii zro).run pins s σ H x y v u _ _ Q I rx ry ra rb q
  |_=>exact q.elim
 |list i=>cases b with
  |int j=>exact f_rep.opD.run pins s σ H x y v u _ _ Q I rx ry ra rb q
  |_=>exact q.elim
 |_=>exact q.elim⟩
def gEq:DOp
 |.int i,.int j,Q=>Q (.bool (decide (i=j)))
 |.str i,.str j,Q=>Q (.bool (decide (i=j)))
 |.bool i,.bool j,Q=>Q (.bool (decide (i=j)))
 |a,b,Q=>Lay a/\Lay b/\Q (.bool (PyData.eqv a b))
def gNe:DOp
 |.int i,.int j,Q=>Q (.bool (!decide (i=j)))
 |.str i,.str j,Q=>Q (.bool (!decide (i=j)))
 |.bool i,.bool j,Q=>Q (.bool (!decide (i=j)))
 |a,b,Q=>Lay a/\Lay b/\Q (.bool (!PyData.eqv a b))
theorem zu7(hu:X.A.units+64<cLine):OpD X (compareOp .Eq) (λa b Q=>Lay a/\Lay b/\Q (.bool (PyData.eqv a b))):=⟨λpins s σ H x y v u a b Q I rx ry ra rb q=>by
 obtain⟨as,e1⟩:=ra.reads I rx q.1.can;obtain⟨bs,e2⟩:=rb.reads I ry q.2.1.can;exact eq_dataH e1 e2 q.1 q.2.1 hu ⟨.bl _,H,_,I,rfl,Same.refl _,.bl,q.2.2⟩⟩
theorem zu8(hu:X.A.units+64<cLine):OpD X (compareOp .NotEq) (λa b Q=>Lay a/\Lay b/\Q (.bool (!PyData.eqv a b))):=⟨λpins s σ H x y v u a b Q I rx ry ra rb q=>by
 obtain⟨as,e1⟩:=ra.reads I rx q.1.can;obtain⟨bs,e2⟩:=rb.reads I ry q.2.1.can;exact ne_dataH e1 e2 q.1 q.2.1 hu ⟨.bl _,H,_,I,rfl,Same.refl _,.bl,q.2.2⟩⟩
theorem zq5{f:D->D->Bool}(neg:Bool)(op:CmpOp)(h:OpR X (compareOp op) (λx y H Q=>zrr x y=true/\Q (.bl (if neg then !decide (x=y) else decide (x=y))) H)):
  OpD X (compareOp op) (λa b Q=>match a,b with
   |.int i,.int j=>Q (.bool (if neg then !decide (i=j) else decide (i=j)))
   |.str i,.str j=>Q (.bool (if neg then !decide (i=j) else decide (i=j)))
   |.bool i,.bool j=>Q (.bool (if neg then !decide (i=j) else decide (i=j)))
   |_,_=>False):=OpD.of h λx y H a b Q ra rb q=>by
 cases a with
 |int i=>cases b with
  |int j=>
   cases ra.int;cases rb.int;have e:decide (V.int i=V.int j)=decide (i=j):=by rw[Bool.eq_iff_iff];simp
   rw[e];exact⟨rfl,.bool _,Same.refl _,.bl,q⟩
  |_=>exact q.elim
 |str i=>cases b with
  |str j=>
   cases ra.str;cases rb.str;have e:decide (V.str i=V.str j)=decide (i=j):=by rw[Bool.eq_iff_iff];simp
   rw[e];exact⟨rfl,.bool _,Same.refl _,.bl,q⟩
  |_=>exact q.elim
 |bool i=>cases b with
  |bool j=>
   cases ra.bool;cases rb.bool;have e:decide (V.bl i=V.bl j)=decide (i=j):=by rw[Bool.eq_iff_iff];simp
   rw[e];exact⟨rfl,.bool _,Same.refl _,.bl,q⟩
  |_=>exact q.elim
 |_=>exact q.elim
theorem zpl{k:Nat}(hr:Room k X.A):OpD X (compareOp .Eq) gEq:=⟨λpins s σ H x y v u a b Q I rx ry ra rb q=>by
 have G:=(zu7 (X:=X) hr.units).run pins s σ H x y v u a b Q I rx ry ra rb;have S:=(zq5 (X:=X) (f:=λ_ _=>true) false .Eq zqv).run pins s σ H x y v u a b Q I rx ry ra rb
 cases a <;> cases b <;> first|exact S q|exact G q⟩
theorem zgv{k:Nat}(hr:Room k X.A):OpD X (compareOp .NotEq) gNe:=⟨λpins s σ H x y v u a b Q I rx ry ra rb q=>by
 have G:=(zu8 (X:=X) hr.units).run pins s σ H x y v u a b Q I rx ry ra rb;have S:=(zq5 (X:=X) (f:=λ_ _=>true) true .NotEq zuj).run pins s σ H x y v u a b Q I rx ry ra rb
 cases a <;> cases b <;> first|exact S q|exact G q⟩
def zam:D->Bool
 |.none=>true
 |_=>false
def zsr:DOp:=λa b Q=>match b with
 |.none=>Q (.bool (zam a))
 |_=>False
def zm8:DOp:=λa b Q=>match b with
 |.none=>Q (.bool (!zam a))
 |_=>False
theorem zcy{K:PySem.W.Frag}{H:Hp}{d:D}{v:V}(h:RepT K H d v):decide (v=.non)=zam d:=by
 rcases h with h |⟨xs,rfl,a,vs,rfl,_⟩
 ·cases h <;> rfl
 ·rfl
theorem zjn:OpD X (compareOp .Is) zsr:=OpD.of zrs λx y H a b Q ra rb q=>by
 cases b with
 |none=>cases rb.none;refine⟨rfl,.bool (zam a),Same.refl _,?_,q⟩;rw[zcy ra];exact .bl
 |_=>exact q.elim
theorem zia:OpD X (compareOp .IsNot) zm8:=OpD.of zo4 λx y H a b Q ra rb q=>by
 cases b with
 |none=>cases rb.none;refine⟨rfl,.bool (!zam a),Same.refl _,?_,q⟩;rw[zcy ra];exact .bl
 |_=>exact q.elim
def inD(x:D)(ys:List D):Bool:=ys.any λy=>PyData.eqv y x
def gIn(neg:Bool):DOp:=λa b Q=>match b with
 |.list ys=>Lay a/\Lay (.list ys)/\Q (.bool (if neg then !inD a ys else inD a ys))
 |.tuple ys=>Lay a/\Lay (.tuple ys)/\Q (.bool (if neg then !inD a ys else inD a ys))
 |_=>False
theorem Lay.all{xs:List D}(h:Lay (.list xs)):PyData.canLayAll0 xs=true:=by simpa[PyData.canLay0]using h.can
theorem Lay.allT{xs:List D}(h:Lay (.tuple xs)):PyData.canLayAll0 xs=true:=by simpa[PyData.canLay0]using h.can
theorem zss{k:Nat}(hr:Room k X.A):OpD X (compareOp .In) (gIn false):=⟨λpins s σ H x y v u a b Q I rx ry ra rb q=>by
 have hu:=hr.un
 cases b with
 |list ys=>
  obtain⟨as,e1⟩:=ra.reads I rx q.1.can;obtain⟨bs,e2⟩:=rb.reads I ry q.2.1.can;have:=q.1.deep;exact SeqAt.in_list_reads e2 e1 q.2.1.all q.1.can (by omega) ⟨.bl _,H,_,I,rfl,Same.refl _,.bl,q.2.2⟩
 |tuple ys=>
  obtain⟨as,e1⟩:=ra.reads I rx q.1.can;obtain⟨bs,e2⟩:=rb.reads I ry q.2.1.can;have:=q.1.deep;exact SeqAt.in_tuple_reads e2 e1 q.2.1.allT q.1.can (by omega) ⟨.bl _,H,_,I,rfl,Same.refl _,.bl,q.2.2⟩
 |_=>exact q.elim⟩
theorem zjo{k:Nat}(hr:Room k X.A):OpD X (compareOp .NotIn) (gIn true):=⟨λpins s σ H x y v u a b Q I rx ry ra rb q=>by
 have hu:=hr.un
 cases b with
 |list ys=>
  obtain⟨as,e1⟩:=ra.reads I rx q.1.can;obtain⟨bs,e2⟩:=rb.reads I ry q.2.1.can;have:=q.1.deep;exact SeqAt.notIn_list_reads e2 e1 q.2.1.all q.1.can (by omega) ⟨.bl _,H,_,I,rfl,Same.refl _,.bl,q.2.2⟩
 |tuple ys=>
  obtain⟨as,e1⟩:=ra.reads I rx q.1.can;obtain⟨bs,e2⟩:=rb.reads I ry q.2.1.can;have:=q.1.deep;exact SeqAt.notIn_tuple_reads e2 e1 q.2.1.allT q.1.can (by omega) ⟨.bl _,H,_,I,rfl,Same.refl _,.bl,q.2.2⟩
 |_=>exact q.elim⟩
end
structure CallD(X:Cx)(f:Value)(g:List D->(D->Prop)->Prop):Prop where
 run:∀(pins:List (Addr×Obj)) (s:Shared) (σ:St) (H:Hp) (vs:List V) (us:List Value) (ds:List D) (Q:D->Prop),Inv X pins σ H s->Vals vs us->RepTs X.K H ds vs->g ds Q->wpAny (model X.prog X.w) X.A (call f us) (DEnd X pins σ H Q) X.xe s
structure CallF(X:Cx)(f:Value)(g:List D->(List D->Prop)->Prop):Prop where
 run:∀(pins:List (Addr×Obj)) (s:Shared) (σ:St) (H:Hp) (vs:List V) (us:List Value) (ds:List D) (Q:List D->Prop),Inv X pins σ H s->Vals vs us->RepTs X.K H ds vs->g ds Q->wpAny (model X.prog X.w) X.A (call f us) (zel X pins σ H Q) X.xe s
def dCB(g:List D->(D->Prop)->Prop)(t:DTF):DTE:=λσ Q=>t σ λds=>g ds Q
def dCF(g:List D->(List D->Prop)->Prop)(t:DTF):DTF:=λσ Q=>t σ λds=>g ds Q
section
variable {X:Cx}{f:Value}{g:List D->(D->Prop)->Prop}{gf:List D->(List D->Prop)->Prop}{e:Expr}{es:List Expr}{t:DTF}{x:Str}{p pos:Pos}
theorem CallD.of{r:List V->Hp->VK->Prop}(h:v7 X f r)(k:∀vs H ds Q,RepTs X.K H ds vs->g ds Q->r vs H (λv H'=>∃d,Same H H'/\Rep X.K H' d v/\Q d)):CallD X f g :=
 ⟨λpins s σ H vs us ds Q I rv rd q=>thn (h pins s σ H vs us _ I rv (k vs H ds Q rd q)) λw s' zq93=>by obtain⟨z,H',I',rz,d,sm,rp,qd⟩:=zq93;exact⟨z,H',d,I',rz,sm,rp,qd⟩⟩
theorem CallF.of{r:List V->Hp->VK->Prop}(h:v7 X f r)(k:∀vs H ds Q,RepTs X.K H ds vs->gf ds Q->r vs H (λv H'=>∃p vs xs,v=.ref p/\Same H H'/\H p=none/\H' p=some (.lst vs)/\Reps X.K H' xs vs/\Q xs)):CallF X f gf :=
 ⟨λpins s σ H vs us ds Q I rv rd q=>thn (h pins s σ H vs us _ I rv (k vs H ds Q rd q)) λw s' zq93=>by obtain⟨z,H',I',rz,p,ws,xs,ez,sm,n,e,rp,qd⟩:=zq93;exact⟨p,H',ws,xs,by subst ez;exact rz,I',sm,n,e,rp,qd⟩⟩
theorem CallD.cr(h:CallD X f g):v7 X f (λvs H Q=>∃ds QD,RepTs X.K H ds vs/\g ds QD/\∀v H' d,Same H H'->Rep X.K H' d v->QD d->Q v H') :=
 λpins s σ H vs us Q I rv zq2=>by obtain⟨ds,QD,rd,q,k⟩:=zq2;exact thn (h.run pins s σ H vs us ds QD I rv rd q) λw s' zq0=>by obtain⟨z,H',d,I',rz,sm,rp,qd⟩:=zq0;exact⟨z,H',I',rz,k z H' d sm rp qd⟩
theorem CallF.cr(h:CallF X f gf):v7 X f (λvs H Q=>∃ds QD,RepTs X.K H ds vs/\gf ds QD/\∀a H' ws xs,Same H H'->H a=none->H' a=some (.lst ws)->Reps X.K H' xs ws->QD xs->Q (.ref a) H') :=
 λpins s σ H vs us Q I rv zq2=>by obtain⟨ds,QD,rd,q,k⟩:=zq2;exact thn (h.run pins s σ H vs us ds QD I rv rd q) λw s' zq0=>by obtain⟨a,H',ws,xs,ew,I',sm,n,e,rp,qd⟩:=zq0;exact⟨.ref a,H',I',ew,k a H' ws xs sm n e rp qd⟩
theorem zy{id:String}(hc:CallD X (.builtin id) g)(hg:Gl X x)(hm:X.mg x=none)(hv:bootBuiltins x=some (.builtin id))(ha:DAv X (e::es) t)(hn:x ≠ "__name__" := by decide)(hdb:(x ==("__debug__" : Str))=false:=by decide)
  (he:starEach (e::es) X.env=(false,eval e X.env)::starEach es X.env:=by rfl) (hpl:(backTo pos (starEach es X.env)).any (·.1)=false:=by rfl):DE X (.Call (.Name x p) (e::es) [] pos) (dCB g t) :=
 DE.of (za0 hc.cr hg hm hv ha.pa hn hdb he hpl) λσ H H₀ σD QD ok q=>⟨H₀,σD,_,ok,q,λvs H1 ds s1 r1 q1=>⟨ds,_,r1,q1,λv H' d s2 rp qd=>⟨d,s1.trans s2,rp,qd⟩⟩⟩
theorem zcz{id:String}(hc:CallF X (.builtin id) gf)(hg:Gl X x)(hm:X.mg x=none)(hv:bootBuiltins x=some (.builtin id))(ha:DAv X (e::es) t)(hn:x ≠ "__name__" := by decide)(hdb:(x ==("__debug__" : Str))=false:=by decide)
  (he:starEach (e::es) X.env=(false,eval e X.env)::starEach es X.env:=by rfl) (hpl:(backTo pos (starEach es X.env)).any (·.1)=false:=by rfl):DF X (.Call (.Name x p) (e::es) [] pos) (dCF gf t) :=
 DF.of (za0 hc.cr hg hm hv ha.pa hn hdb he hpl) λσ H H₀ σD QD ok q=>⟨H₀,σD,_,ok,q,λvs H1 ds s1 r1 q1=>⟨ds,_,r1,q1,λa H' ws xs s2 n e rp qd=>⟨a,ws,xs,rfl,s1.trans s2,s1.free n,e,rp,qd⟩⟩⟩
theorem wx{id:String}(hc:CallD X (.type id) g)(hg:Gl X x)(hm:X.mg x=none)(hv:bootBuiltins x=some (.type id))(ha:DAv X (e::es) t)(hn:x ≠ "__name__" := by decide)(hdb:(x ==("__debug__" : Str))=false:=by decide)
  (he:starEach (e::es) X.env=(false,eval e X.env)::starEach es X.env:=by rfl) (hpl:(backTo pos (starEach es X.env)).any (·.1)=false:=by rfl):DE X (.Call (.Name x p) (e::es) [] pos) (dCB g t) :=
 DE.of (zeg hc.cr hg hm hv ha.pa hn hdb he hpl) λσ H H₀ σD QD ok q=>⟨H₀,σD,_,ok,q,λvs H1 ds s1 r1 q1=>⟨ds,_,r1,q1,λv H' d s2 rp qd=>⟨d,s1.trans s2,rp,qd⟩⟩⟩
theorem RepTs.one{K:PySem.W.Frag}{H:Hp}{d:D}{vs:List V}(h:RepTs K H [d] vs):∃v,vs = [v]/\RepT K H d v:=by
 cases h with
 |cons r t=>cases t;exact⟨_,rfl,r⟩
theorem RepTs.two{K:PySem.W.Frag}{H:Hp}{d e:D}{vs:List V}(h:RepTs K H [d,e] vs):∃v w,vs = [v,w]/\RepT K H d v/\RepT K H e w:=by
 cases h with
 |cons r t=>cases t with
  |cons r2 t=>cases t;exact⟨_,_,rfl,r,r2⟩
def zst:List D->(D->Prop)->Prop
 |[.str x],Q=>x.length<=sizeLine/\Q (.int x.length)
 |[.list xs],Q=>Q (.int xs.length)
 |[.tuple xs],Q=>Q (.int xs.length)
 |_,_=>False
theorem va:CallD X (.builtin "len") zst:=CallD.of zmm λvs H ds Q rd q=>by
 match ds,q,rd with
 |[.str x],q,rd=>
  obtain⟨v,rfl,r⟩:=rd.one
  cases r.str;exact⟨_,x.length,rfl,⟨q.1,rfl⟩,_,Same.refl _,.int,q.2⟩
 |[.list xs],q,rd=>
  obtain⟨v,rfl,r⟩:=rd.one;obtain⟨a,vs,rfl,h,r⟩:=r.list.sq;exact⟨_,xs.length,rfl,.inl ⟨vs,h,r.length⟩,_,Same.refl _,.int,q⟩
 |[.tuple xs],q,rd=>
  obtain⟨v,rfl,r⟩:=rd.one;obtain⟨a,vs,rfl,h,r⟩:=r.tuple;exact⟨_,xs.length,rfl,.inr ⟨vs,h,r.length⟩,_,Same.refl _,.int,q⟩
def zsu:List D->(D->Prop)->Prop
 |[.int i,.int j],Q=>Q (.int (max i j))
 |_,_=>False
theorem zen(hc:X.calm=true):CallD X (.builtin "max") zsu:=CallD.of (zku hc) λvs H ds Q rd q=>by
 match ds,q,rd with
 |[.int i,.int j],q,rd=>
  obtain⟨v,w,rfl,r1,r2⟩:=rd.two
  cases r1.int
  cases r2.int;refine⟨i,j,rfl,_,Same.refl _,.int,?_⟩;have e:(if j > i then j else i)=max i j:=by split <;> omega
  rw[e];exact q
def zsv:List D->(D->Prop)->Prop
 |[.int i],Q=>Q (.int i)
 |[.bool b],Q=>Q (.int (if b then 1 else 0))
 |_,_=>False
theorem zu9:CallD X (.type "int") zsv:=CallD.of zkv λvs H ds Q rd q=>by
 match ds,q,rd with
 |[.int i],q,rd=>
  obtain⟨v,rfl,r⟩:=rd.one
  cases r.int;exact .inl ⟨i,rfl,_,Same.refl _,.int,q⟩
 |[.bool i],q,rd=>
  obtain⟨v,rfl,r⟩:=rd.one
  cases r.bool;exact .inr ⟨i,rfl,_,Same.refl _,.int,q⟩
def zib:List D->(D->Prop)->Prop
 |[.list xs],Q=>Q (.tuple xs)
 |[.tuple xs],Q=>Q (.tuple xs)
 |_,_=>False
theorem ku:CallD X (.type "tuple") zib:=CallD.of j8 λvs H ds Q rd q=>by
 match ds,q,rd with
 |[.list xs],q,rd=>
  obtain⟨v,rfl,r⟩:=rd.one;obtain⟨a,vs,rfl,h,r⟩:=r.list.sq;exact⟨a,vs,rfl,.inl ⟨h,λl hl=>⟨_,ya hl _,.tup (SqT.of zp) (r.same (ya hl _)),q⟩⟩⟩
 |[.tuple xs],q,rd=>
  obtain⟨v,rfl,r⟩:=rd.one;obtain⟨a,vs,rfl,h,r⟩:=r.tuple;exact⟨a,vs,rfl,.inr ⟨h,_,Same.refl _,.tup h r,q⟩⟩
def za1:List D->Option (List Int)
 |[]=>some []
 |.int i::r=>(za1 r).map (i :: ·)
 |_::_=>none
def qw:List D->Option (List Bool)
 |[]=>some []
 |.bool i::r=>(qw r).map (i :: ·)
 |_::_=>none
theorem kb(ns:List Int):za1 (ns.map PyData.int)=some ns:=by
 induction ns with
 |nil=>rfl
 |cons n ns ih=>simp[za1,ih]
theorem qb(ns:List Bool):qw (ns.map PyData.bool)=some ns:=by
 induction ns with
 |nil=>rfl
 |cons n ns ih=>simp[qw,ih]
theorem zbk{K:PySem.W.Frag}{H:Hp}:∀{xs:List D}{vs:List V}{ns:List Int},Reps K H xs vs->za1 xs=some ns->vs=ns.map V.int
 |[],_,ns,r,e=>by cases r;simp[za1]at e;subst e;rfl
 |x::xs,_,ns,r,e=>by
  cases r with
  |cons r t=>
   cases x with
   |int i=>
    simp only[za1,Option.map_eq_some_iff]at e;obtain⟨ms,e1,rfl⟩:=e
    cases r;rw[zbk t e1];rfl
   |_=>simp[za1]at e
theorem zc0{K:PySem.W.Frag}{H:Hp}:∀{xs:List D}{vs:List V}{ns:List Bool},Reps K H xs vs->qw xs=some ns->vs=ns.map V.bl
 |[],_,ns,r,e=>by cases r;simp[qw]at e;subst e;rfl
 |x::xs,_,ns,r,e=>by
  cases r with
  |cons r t=>
   cases x with
   |bool i=>
    simp only[qw,Option.map_eq_some_iff]at e;obtain⟨ms,e1,rfl⟩:=e
    cases r;rw[zc0 t e1];rfl
   |_=>simp[qw]at e
def zsw:List D->(D->Prop)->Prop
 |[.list xs],Q=>∃ns,za1 xs=some ns/\Q (.int ns.sum)
 |_,_=>False
theorem zjp(hc:X.calm=true):CallD X (.builtin "sum") zsw:=CallD.of (zmt hc) λvs H ds Q rd q=>by
 match ds,q,rd with
 |[.list xs],q,rd=>
  obtain⟨v,rfl,r⟩:=rd.one;obtain⟨a,vs,rfl,h,r⟩:=r.list.sq;obtain⟨ns,e,q⟩:=q
  cases zbk r e;exact⟨a,ns,rfl,h,_,Same.refl _,.int,q⟩
def zsx:List D->(D->Prop)->Prop
 |[.list xs],Q=>∃ns,qw xs=some ns/\Q (.bool (ns.all id))
 |_,_=>False
theorem zgw(hc:X.calm=true):CallD X (.builtin "all") zsx:=CallD.of (zmv hc) λvs H ds Q rd q=>by
 match ds,q,rd with
 |[.list xs],q,rd=>
  obtain⟨v,rfl,r⟩:=rd.one;obtain⟨a,vs,rfl,h,r⟩:=r.list.sq;obtain⟨ns,e,q⟩:=q
  cases zc0 r e;exact⟨a,ns,rfl,h,_,Same.refl _,.bl,q⟩
def isD:String->D->Bool
 | "int",.int _=>true
 | "int",.bool _=>true
 | "bool",.bool _=>true
 | "str",.str _=>true
 | "list",.list _=>true
 | "tuple",.tuple _=>true
 | "dict",.dict _=>true
 |_,_=>false
def tyD:D->String
 |.none=> "NoneType"
 |.bool _=> "bool"
 |.int _=> "int"
 |.str _=> "str"
 |.list _=> "list"
 |.tuple _=> "tuple"
 |.dict _=> "dict"
theorem zic{pins:List (Addr×Obj)}{σ:St}{H:Hp}{s:Shared}{A:Around}{E:Value->Shared->Prop}{Q:Value->Shared->Prop}{c:Value}{b:Bool}{d:D}{v:V}{u:Value}(I:Inv X pins σ H s)(rp:RepT X.K H d v)(ru:RelV v u)(e:PySem.W.kitOne X.K (.type (tyD d)) c=some b)
  (h:∀tk,Q (.bool b) { s with toks:=tk }):wpAny (model X.prog X.w) A (call (.builtin "isinstance") [u,c]) Q E s:=by
 rcases rp with rp |⟨xs,rfl,a,vs,rfl,hr,_⟩
 ·cases rp with
  |non=>cases ru;exact PySem.W.kia_one PySem.W.kitx_none I.kIn True.intro e (λz=>nomatch z) h
  |bl=>cases ru;exact PySem.W.kia_one PySem.W.kitx_bool I.kIn True.intro e (λz=>nomatch z) h
  |int=>obtain⟨t,rfl⟩:=ru;exact PySem.W.kia_one PySem.W.kitx_int I.kIn True.intro e (λz=>nomatch z) h
  |str=>obtain⟨t,rfl⟩:=ru;exact PySem.W.kia_one PySem.W.kitx_str I.kIn True.intro e (λz=>nomatch z) h
  |tup q r=>
   cases ru;obtain⟨its,_,⟨o,h1,h2,_⟩,_⟩:=I.tuple q;exact PySem.W.kia_one PySem.W.kitx_tuple I.kIn ⟨o,h1,h2⟩ e (λz=>nomatch z) h
  |lst q r=>
   cases ru;obtain⟨_,_,_,n,_,h1⟩:=I.hok _ _ q;exact PySem.W.kia_one PySem.W.kitx_list I.kIn ⟨_,h1,rfl⟩ e (λz=>nomatch z) h
  |dic q r=>
   cases ru;obtain⟨_,_,_,vs,_,o,es,ep,h1,h2,_⟩:=I.hok _ _ q;exact PySem.W.kia_one PySem.W.kitx_dict I.kIn ⟨o,h1,h2.1⟩ e (λz=>nomatch z) h
 ·cases ru;obtain⟨_,_,n,_,h1⟩:=hr.ok I.hok;exact PySem.W.kia_one PySem.W.kitx_list I.kIn ⟨_,h1,rfl⟩ e (λz=>nomatch z) h
def dIs(n:String)(t:DTE):DTE:=λσ Q=>t σ λd=>Q (.bool (isD n d))
theorem zan{n:String}{ta:DTE}{x2:Str}{p2:Pos}(hk:∀d:D,PySem.W.kitOne X.K (.type (tyD d)) (.type n)=some (isD n d))(hg:Gl X "isinstance")(hm:X.mg "isinstance" = none)(hv:bootBuiltins "isinstance" = some (.builtin "isinstance"))(ha:DV X e ta)
  (hg2:Gl X x2) (hm2:X.mg x2=none) (hv2:bootBuiltins x2=some (.type n)) (hn2:x2 ≠ "__name__" := by decide) (hdb2:(x2 ==("__debug__" : Str))=false:=by decide)
  (he:starEach (e :: [.Name x2 p2]) X.env=(false,eval e X.env)::starEach [.Name x2 p2] X.env:=by rfl) (he2:starEach [.Name x2 p2] X.env=(false,eval (.Name x2 p2) X.env)::starEach [] X.env:=by rfl) (hpl:(backTo pos (starEach [.Name x2 p2] X.env)).any (·.1)=false:=by rfl):DE X (.Call (.Name "isinstance" p) [e,.Name x2 p2] [] pos) (dIs n ta):=by
 have hc:v7 X (.builtin "isinstance") (λvs H Q=>∃d v,vs = [v,.ty n]/\RepT X.K H d v/\Q (.bl (isD n d)) H):=λpins s σ H xs us Q I rv zq28=>by
  obtain⟨d,v,e,r,q⟩:=zq28;subst e;obtain⟨u,w,rfl,r1,r2⟩:=rv.two
  cases r2;exact zic I r r1 (hk d) λtk=>⟨.bl (isD n d),H,I.tok tk,rfl,q⟩
 refine DE.of (za0 hc hg hm hv (xz ha.pe (xz (zoz (v:=.ty n) hg2 hm2 hv2 rfl hn2 hdb2) vf he2) he) (by decide) (by decide) he hpl) λσ H H₀ σD QD ok q=>?_;exact⟨H₀,σD,_,ok,q,λv H1 d s1 r1 q1=>⟨d,v,rfl,r1,_,s1,.bl,q1⟩⟩
theorem zva{K:PySem.W.Frag}(d:D):PySem.W.kitOne K (.type (tyD d)) (.type "int")=some (isD "int" d):=by cases d <;> rfl
theorem zsy{K:PySem.W.Frag}(d:D):PySem.W.kitOne K (.type (tyD d)) (.type "bool")=some (isD "bool" d):=by cases d <;> rfl
theorem za2{K:PySem.W.Frag}(d:D):PySem.W.kitOne K (.type (tyD d)) (.type "tuple")=some (isD "tuple" d):=by cases d <;> rfl
variable {a b:Expr}{ta tb:DTE}
def gIx:DOp
 |.list xs,.int i,Q=>∃d,atI xs i=some d/\Q d
 |.tuple xs,.int i,Q=>∃d,atI xs i=some d/\Q d
 |.str x,.int i,Q=>x.length<=sizeLine/\∃c,atI x.cps.toList i=some c/\Q (.str ⟨#[c]⟩)
 |_,_,_=>False
theorem zjq{K:PySem.W.Frag}{H:Hp}{xs:List D}{vs:List V}{i:Int}{d:D}(r:Reps K H xs vs)(h:atI xs i=some d):∃v,atI vs i=some v/\Rep K H d v:=by
 unfold atI at h ⊢;rw[<-r.length]
 cases e:ixN xs.length i with
 |none=>rw[e]at h;cases h
 |some j=>
  rw[e]at h;exact r.get h
theorem wm(ha:DV X a ta)(hb:DE X b tb)(hs:zfc b):DE X (.Subscript a b pos) (dOp gIx ta tb) :=
 DE.of (zb1 zr5 ha.pe hb.pe hs) λσ H H₀ σD QD ok q=>⟨H₀,σD,_,ok,q,λv H1 d s1 r1 q1=>⟨H₀,σD,_,ok.after s1,q1,λw H2 d2 s2 r2 q2=>by
  have r1:=r1.same s2;have sm:=s1.trans s2
  cases d2 with
  |int i=>
   cases r2
   cases d with
   |list xs=>
    obtain⟨l,vs,rfl,hl,r⟩:=r1.list.sq;obtain⟨d,e,q⟩:=q2;obtain⟨x,e1,e2⟩:=zjq r e;exact .inl ⟨l,vs,i,x,rfl,rfl,hl,e1,d,sm,e2,q⟩
   |tuple xs=>
    obtain⟨l,vs,rfl,hl,r⟩:=r1.tuple;obtain⟨d,e,q⟩:=q2;obtain⟨x,e1,e2⟩:=zjq r e;exact .inr (.inl ⟨l,vs,i,x,rfl,rfl,hl,e1,d,sm,e2,q⟩)
   |str x=>
    cases r1.str;obtain⟨hz,c,e,q⟩:=q2;exact .inr (.inr ⟨x,i,c,rfl,rfl,hz,e,_,sm,.str,q⟩)
   |_=>exact q2.elim
  |_=>cases d <;> exact q2.elim⟩⟩
abbrev DTO:=DSt->(Option Int->Prop)->Prop
structure DO(X:Cx)(e:Option Expr)(t:DTO):Prop where
 po:PO X e (λσ H Q=>∃H₀ σD QD,DOk X.K H₀ H σD σ/\t σD QD/\∀o H',Same H H'->QD o->Q o H')
def zfk:DTO:=λ_ Q=>Q none
def zm9(t:DTE):DTO:=λσ Q=>t σ λd=>match d with
 |.int i=>Q (some i)
 |_=>False
theorem kw:DO X none zfk:=⟨λpins s σ H Q I zq40=>by obtain⟨H₀,σD,QD,ok,q,k⟩:=zq40;exact zo7 pins s σ H Q I (k none H (Same.refl _) q)⟩
theorem v4(h:DE X a ta):DO X (some a) (zm9 ta):=⟨λpins s σ H Q I ⟨H₀,σD,QD,ok,q,k⟩=>zo8 h.pe pins s σ H Q I ⟨H₀,σD,_,ok,q,λv H1 d s1 r1 q1=>by
 cases d with
 |int i=>cases r1;exact⟨i,rfl,k _ _ s1 q1⟩
 |_=>exact q1.elim⟩⟩
def x3(xs:List D)(lo hi:Option Int):List D:=(xs.drop (HT.sIx xs.length 0 lo)).take (HT.sIx xs.length xs.length hi-HT.sIx xs.length 0 lo)
theorem Reps.cut{K:PySem.W.Frag}{H:Hp}{xs:List D}{vs:List V}(r:Reps K H xs vs)(lo hi:Option Int):Reps K H (x3 xs lo hi) (zdv vs lo hi):=by
 unfold x3 zdv;rw[<-r.length];exact(r.drop _).take _
variable {lo hi:Option Expr}{tl th:DTO}{p2:Pos}
theorem zpm:SlR X (λx lo hi H Q=>∃a xs,x=.ref a/\SqT X.K H a xs/\∀p H',Same H H'->SqT X.K H' p (zdv xs lo hi)->Q (.ref p) H'):=by
 intro pins s σ H x v vl vu lo hi sl Q I rx hs pl pu h;obtain⟨a,xs,rfl,hx,q⟩:=h
 by_cases hw:HT.sIx xs.length 0 lo=0/\HT.sIx xs.length xs.length hi=xs.length
 ·cases rx;obtain⟨its,r,ht,hz⟩:=I.tuple hx;have hlen:its.toArray.size=xs.length:=by rw[List.size_toArray];exact r.length.symm
  refine⟨"tuple",_,PyProof.Rows.slot_tuple_getitem.lookup,ht.typeIs,zk5 ht hs pl pu (by rw[hlen];exact hw.1) (by rw[hlen];exact hw.2) ⟨.ref a,H,I,rfl,q a H (Same.refl H) ?_⟩⟩;unfold zdv;rw[hw.1,hw.2,List.drop_zero,Nat.sub_zero,List.take_length];exact hx
 ·exact zrz pins s σ H (.ref a) v vl vu lo hi sl Q I rx hs pl pu ⟨a,xs,rfl,hx,hw,λp hp=>q p _ (ya hp _) (SqT.of zp)⟩
def dSl(te:DTE)(tl th:DTO):DTE:=λσ Q=>te σ λd=>tl σ λl=>th σ λu=>match d with
 |.list xs=>Q (.list (x3 xs l u))
 |.tuple xs=>Q (.tuple (x3 xs l u))
 |_=>False
theorem qc(he:DV X e ta)(hl:DO X lo tl)(hu:DO X hi th):DE X (.Subscript e (.Slice lo hi none p2) pos) (dSl ta tl th):=⟨λpins s σ H H₀ σD Q I ok q=>by
 refine thn (zgm (SlR.or zji zpm) he.pe hl.po hu.po pins s σ H (λv H'=>(∃d,Same H H'/\Rep X.K H' d v/\Q d)\/∃p vs xs,v=.ref p/\Same H H'/\H p=none/\H' p=some (.lst vs)/\Reps X.K H' xs vs/\Q (.list xs)) I ?_) λu s' ⟨v,H',I',r,z⟩=>?_
 ·exact⟨H₀,σD,_,ok,q,λv H1 d s1 r1 q1=>⟨H₀,σD,_,ok.after s1,q1,λl H2 s2 q2=>⟨H₀,σD,_,(ok.after s1).after s2,q2,λu H3 s3 q3=>by
   cases d with
   |list xs=>
    obtain⟨b,vs,rfl,hb,r⟩:=((r1.same s2).same s3).list.sq;exact .inl ⟨b,vs,rfl,hb,λp hp=>.inr ⟨p,_,_,rfl,((s1.trans s2).trans s3).trans (ya hp _),((s1.trans s2).trans s3).free hp,zp,(r.cut l u).same (ya hp _),q3⟩⟩
   |tuple xs=>
    obtain⟨b,vs,rfl,hb,r⟩:=((r1.same s2).same s3).tuple;exact .inr ⟨b,vs,rfl,hb,λp H4 s4 e4=>.inl ⟨_,((s1.trans s2).trans s3).trans s4,.tup e4 ((r.cut l u).same s4),q3⟩⟩
   |_=>exact q3.elim⟩⟩⟩
 ·rcases z with⟨d,sm,rp,qd⟩ |⟨p,vs,xs,rfl,sm,n,e,rp,qd⟩
  ·exact⟨v,H',d,I',r,sm,rp,qd⟩
  ·obtain⟨H'',J,sm',r'⟩:=zal I' sm n e rp;exact⟨.ref p,H'',.list xs,J,r,sm',r',qd⟩⟩
def zfl(i:Nat)(tl th:DTO):DTF:=λσ Q=>match σ[i]? with
 |some (some (.scr ns))=>tl σ λl=>th σ λu=>Q ((x3 (ns.map PyData.int) l u))
 |_=>False
theorem zsz(i:Nat){x:Str}{pos':Pos}(hl:DO X lo tl)(hu:DO X hi th)(hN:X.N[i]?=some x:=by rfl)(hv:Vis X.env.scope x:=by first|exact Or.inl rfl|exact Or.inr (Or.inl rfl)|exact Or.inr (Or.inr rfl))(hd:(x ==("__debug__" : Str))=false:=by decide)
  (hcd:(x ==("__classdict__" : Str))=false:=by decide):DF X (.Subscript (.Name x pos') (.Slice lo hi none p2) pos) (zfl i tl th) :=
 DF.of (zgm zji (wc (i:=i) hN hv hd hcd) hl.po hu.po) λσ H H₀ σD QD ok q=>by
  unfold zfl at q
  split at q
  ·next ns e=>
   obtain⟨b,e1,hb⟩:=ok.scr e;exact⟨_,e1,H₀,σD,_,ok,q,λl H2 s2 q2=>⟨H₀,σD,_,ok.after s2,q2,λu H3 s3 q3=>⟨b,_,rfl,s3.seq (s2.seq hb),λp hp=>⟨p,_,_,rfl,(s2.trans s3).trans (ya hp _),(s2.trans s3).free hp,zp,Reps.ints.cut l u,q3⟩⟩⟩⟩
  ·exact q.elim
def zch(i:Nat):DTE:=λσ Q=>match σ[i]? with
 |some (some (.scr ns))=>Q (.int ns.length)
 |_=>False
theorem zk9(i:Nat){x:Str}{pos':Pos}(hg:Gl X "len")(hm:X.mg "len" = none)(hN:X.N[i]?=some x:=by rfl)(hv:Vis X.env.scope x:=by first|exact Or.inl rfl|exact Or.inr (Or.inl rfl)|exact Or.inr (Or.inr rfl))(hd:(x ==("__debug__" : Str))=false:=by decide)
  (hcd:(x ==("__classdict__" : Str))=false:=by decide):DE X (.Call (.Name "len" p) [.Name x pos'] [] pos) (zch i) :=
 DE.of (za0 zfe hg hm PySem.boot_len (xz (wc (i:=i) hN hv hd hcd) vf)) λσ H H₀ σD QD ok q=>by
  unfold zch at q
  split at q
  ·next ns e=>
   obtain⟨b,e1,hb⟩:=ok.scr e;exact⟨_,e1,b,_,rfl,.inl hb,_,Same.refl _,.int,by rw[List.length_map];exact q⟩
  ·exact q.elim
def zfm(i:Nat)(tb:DTE):DTE:=λσ Q=>match σ[i]? with
 |some (some (.scr ns))=>tb σ λd=>match d with
  |.int k=>∃n,atI ns k=some n/\Q (.int n)
  |_=>False
 |_=>False
theorem zpn{α β:Type}(f:α->β)(xs:List α)(i:Int):atI (xs.map f) i=(atI xs i).map f:=by
 unfold atI;rw[List.length_map]
 cases ixN xs.length i with
 |none=>rfl
 |some j=>simp
theorem zna(i:Nat){x:Str}{pos':Pos}(hb:DE X b tb)(hs:zfc b)(hN:X.N[i]?=some x:=by rfl)(hv:Vis X.env.scope x:=by first|exact Or.inl rfl|exact Or.inr (Or.inl rfl)|exact Or.inr (Or.inr rfl))(hd:(x ==("__debug__" : Str))=false:=by decide)
  (hcd:(x ==("__classdict__" : Str))=false:=by decide):DE X (.Subscript (.Name x pos') b pos) (zfm i tb) :=
 DE.of (zb1 ix_list (wc (i:=i) hN hv hd hcd) hb.pe hs) λσ H H₀ σD QD ok q=>by
  unfold zfm at q
  split at q
  ·next ns e=>
   obtain⟨b,e1,hb⟩:=ok.scr e;refine⟨_,e1,H₀,σD,_,ok,q,λw H2 d2 s2 r2 q2=>?_⟩
   cases d2 with
   |int k=>
    cases r2;obtain⟨n,en,q⟩:=q2;exact⟨b,_,k,.int n,rfl,rfl,s2.seq hb,by rw[zpn,en];rfl,_,s2,.int,q⟩
   |_=>exact q2.elim
  ·exact q.elim
end
structure ItOk(K:PySem.W.Frag)(Kp:Hp->Hp->Prop)(J:It)(H1:Hp)(ds:List D):Prop where
 go:∀H i d,Kp H1 H->ds[i]?=some d->J.go i H/\∀x H',J.yld i H x H'->Same H H'/\Rep K H' d x
 stop:∀H,Kp H1 H->J.stop ds.length H
theorem ItOk.weak{K:PySem.W.Frag}{J:It}{H1:Hp}{ds:List D}(h:ItOk K Pers J H1 ds):ItOk K Same J H1 ds:=⟨λH i d s=>h.go H i d s.pers,λH s=>h.stop H s.pers⟩
def cnI(K:PySem.W.Frag)(Kp:Hp->Hp->Prop)(t:DTF):TI:=λσ H R=>∃H₀ σD QD,DOk K H₀ H σD σ/\t σD QD/\∀J H1 ds,Same H H1->ItOk K Kp J H1 ds->QD ds->R J H1
structure DI(X:Cx)(tg iter:Expr)(t:DTF):Prop where
 pi:PI X tg iter (cnI X.K Pers t)
structure DIw(X:Cx)(tg iter:Expr)(t:DTF):Prop where
 pi:PI X tg iter (cnI X.K Same t)
section
variable {X:Cx}{tg iter e:Expr}{t:DTF}{te:DTE}{p pos:Pos}
theorem DI.w(h:DI X tg iter t):DIw X tg iter t:=⟨λpins s σ H R I zq56=>by obtain⟨H₀,σD,QD,ok,q,k⟩:=zq56;exact h.pi pins s σ H R I ⟨H₀,σD,QD,ok,q,λJ H1 ds s1 o qd=>k J H1 ds s1 o.weak qd⟩⟩
theorem znb{l:Expr}{tl:TE}(hl:PE X l tl):PI X tg l (λσ H R=>tl σ H λx H1=>(∃a xs,x=.ref a/\SqL X.K H1 a xs/\R (Itl X.K a) H1)\/∃a xs,x=.ref a/\SqT X.K H1 a xs/\R (Itt X.K a) H1):=by
 intro pins s σ H R I h;refine thn (hl pins s σ H _ I h) λv s1 zr22=>?_;obtain⟨x,H1,I1,r1,q1⟩:=zr22;rcases q1 with⟨a,xs,e,hq,q⟩ |⟨a,xs,e,hq,q⟩
 ·subst e
  cases r1;obtain⟨its,rv,p,hz⟩:=I1.list hq;refine wpAny_pyIter_list p.isList ?_;refine⟨s1.heap.objs.size,[s1.heap.objs.size],_,_,H1,rfl,I1.kept (t':=s1.toks) λb o e=>Heap.get?_push_of_some _ e,zkr a _,⟨_,Heap.get?_push_size _ rfl,rfl,rfl⟩,λb hb=>?_,q⟩;have e:b=s1.heap.objs.size:=by simpa using hb
  subst e;exact I1.fpOk (Nat.le_refl _) (I1.hok.fresh (Nat.le_refl _))
 ·subst e
  cases r1;obtain⟨its,rv,p,hz⟩:=I1.tuple hq;refine wpAny_pyIter_tuple (show s1.heap.IsTuple a its.toArray from p) ?_;refine⟨s1.heap.objs.size,[s1.heap.objs.size],_,_,H1,rfl,I1.kept (t':=s1.toks) λb o e=>Heap.get?_push_of_some _ e,zhx a _,⟨_,Heap.get?_push_size _ rfl,rfl,rfl⟩,λb hb=>?_,q⟩;have e:b=s1.heap.objs.size:=by simpa using hb
  subst e;exact I1.fpOk (Nat.le_refl _) (I1.hok.fresh (Nat.le_refl _))
def zjr(te:DTE):DTF:=λσ Q=>te σ λd=>match d with
 |.list xs=>Q xs
 |.tuple xs=>Q xs
 |_=>False
theorem znc{K:PySem.W.Frag}{Kp:Hp->Hp->Prop}{H1:Hp}{a:Addr}{xs:List D}{vs:List V}(kp:∀H,Kp H1 H->SqL K H a vs/\Reps K H xs vs):ItOk K Kp (Itl K a) H1 xs where
 go:=λH i d k e=>by
  obtain⟨hs,r⟩:=kp H k;obtain⟨v,e1,r1⟩:=r.get e;refine⟨⟨vs,v,hs,e1⟩,λx H' y=>?_⟩;obtain⟨rfl,y⟩:=y;have:=y vs hs;rw[e1]at this
  cases this;exact⟨Same.refl _,r1⟩
 stop:=λH k=>by
  obtain⟨hs,r⟩:=kp H k;exact⟨vs,hs,by rw[r.length];exact Nat.le_refl _⟩
theorem znd{K:PySem.W.Frag}{Kp:Hp->Hp->Prop}{H1:Hp}{a:Addr}{xs:List D}{vs:List V}(kp:∀H,Kp H1 H->SqT K H a vs/\Reps K H xs vs):ItOk K Kp (Itt K a) H1 xs where
 go:=λH i d k e=>by
  obtain⟨hs,r⟩:=kp H k;obtain⟨v,e1,r1⟩:=r.get e;refine⟨⟨vs,v,hs,e1⟩,λx H' y=>?_⟩;obtain⟨rfl,y⟩:=y;have:=y vs hs;rw[e1]at this
  cases this;exact⟨Same.refl _,r1⟩
 stop:=λH k=>by
  obtain⟨hs,r⟩:=kp H k;exact⟨vs,hs,by rw[r.length];exact Nat.le_refl _⟩
theorem Pers.sqF{K:PySem.W.Frag}{H H':Hp}{a:Addr}{o:Obj}{vs:List V}(p:Pers H H')(h:H a=some (.frz o (.lst vs))):SqL K H' a vs:=.inl (.inr ⟨o,p _ _ h rfl⟩)
theorem zao(h:DE X e te):DI X tg e (zjr te):=⟨λpins s σ H R I ⟨H₀,σD,QD,ok,q,k⟩=>znb h.pe pins s σ H R I ⟨H₀,σD,_,ok,q,λv H1 d s1 r1 q1=>by
 cases d with
 |list xs=>
  cases r1 with
  |lst hf r=>exact .inl ⟨_,_,rfl,.inl (.inr ⟨_,hf⟩),k _ _ xs s1 (znc λH' pr=>⟨pr.sqF hf,r.mono pr⟩) q1⟩
 |tuple xs=>
  cases r1 with
  |tup hf r=>exact .inr ⟨_,_,rfl,hf,k _ _ xs s1 (znd λH' pr=>⟨pr.sqT hf,r.mono pr⟩) q1⟩
 |_=>exact q1.elim⟩⟩
theorem RepL.sq'{K:PySem.W.Frag}{H H':Hp}{a:Addr}{vs:List V}(s:Same H H')(h:Rd H a (.lst vs)):SqL K H' a vs:=by
 rcases h with h |⟨o,h⟩
 ·exact .inl (.inl (s _ _ h))
 ·exact .inl (.inr ⟨o,s _ _ h⟩)
theorem wt(h:DV X e te):DIw X tg e (zjr te):=⟨λpins s σ H R I ⟨H₀,σD,QD,ok,q,k⟩=>znb h.pe pins s σ H R I ⟨H₀,σD,_,ok,q,λv H1 d s1 r1 q1=>by
 cases d with
 |list xs=>
  obtain⟨a,vs,rfl,hf,r⟩:=r1.list;exact .inl ⟨_,_,rfl,.inl hf,k _ _ xs s1 (znc λH' pr=>⟨RepL.sq' pr hf,r.same pr⟩) q1⟩
 |tuple xs=>
  obtain⟨a,vs,rfl,hf,r⟩:=r1.tuple;exact .inr ⟨_,_,rfl,hf,k _ _ xs s1 (znd λH' pr=>⟨pr.pers.sqT hf,r.same pr⟩) q1⟩
 |_=>exact q1.elim⟩⟩
def y9(lo:Int)(n:Nat):List D:=(List.range n).map λi=>.int (lo+(i:Nat))
theorem zs0{K:PySem.W.Frag}{Kp:Hp->Hp->Prop}{H1:Hp}(lo:Int)(n:Nat):ItOk K Kp (Itr lo n) H1 (y9 lo n) where
 go:=λH i d k e=>by
  have hi:i<n:=by have:=(List.getElem?_eq_some_iff.mp e).1;simpa[y9]using this
  refine⟨hi,λx H' y=>?_⟩;obtain⟨rfl,rfl⟩:=y;refine⟨Same.refl _,?_⟩;simp[y9,List.getElem?_map,List.getElem?_range hi]at e;subst e;exact .int
 stop:=λH k=>by
  show n<=(y9 lo n).length;simp[y9]
def zfn(ta:DTF):DTF:=λσ Q=>ta σ λds=>match ds with
 |[.int j]=>(-(2 ^ 62)<=j/\j<2 ^ 62)/\Q (y9 0 j.toNat)
 |_=>False
variable {a b:Expr}
theorem kc(hg:Gl X "range")(hm:X.mg "range" = none)(ha:DA X [a] t)(hs:starEach [a] X.env = [(false,eval a X.env)]:=by rfl):DI X tg (.Call (.Name "range" p) [a] [] pos) (zfn t) :=
 ⟨λpins s σ H R I ⟨H₀,σD,QD,ok,q,k⟩=>zks hg hm ha.pa hs pins s σ H R I ⟨H₀,σD,_,ok,q,λvs H1 ds s1 r1 q1=>by
  match ds,r1,q1 with
  |[.int j],r1,q1=>
   cases r1 with
   |cons r t=>
    cases t
    cases r;exact⟨j,rfl,q1.1.1,q1.1.2,k _ _ _ s1 (zs0 0 j.toNat) q1.2⟩⟩⟩
def qh(xs ys:List D):List D:=List.zipWith (λa b=>.tuple [a,b]) xs ys
theorem zpo{elts:List Expr}{x1}{tpos:Pos}{ta:TA}(hg:Gl X "zip")(hm:X.mg "zip" = none)(ha:PA X [a,b] ta)(hb:bootBuiltins "zip" = some (.type "zip"):=by first|exact boot_zip|rfl|decide +kernel)(hs:starEach [a,b] X.env = [(false,eval a X.env),(false,eval b X.env)]:=by rfl)(hs2:starEach [b] X.env = [(false,eval b X.env)]:=by rfl):
  PI X (.Tuple elts x1 tpos) (.Call (.Name "zip" p) [a,b] [] pos) (λσ H R=>ta σ H λvs H1=>∃b1 b2 a b,vs = [.ref a,.ref b]/\(∃xs,SqG b1 X.K H1 a xs)/\(∃ys,SqG b2 X.K H1 b ys)/\R (Izg b1 b2 X.K a b) H1):=by
 intro pins s σ H R I h;refine Call_ (v6 I hg hm hb (PyProof.Rows.callWith_type1 (thn (ha pos pins s σ H _ I h) λus s1 ⟨vs,H1,I1,r1,q1⟩=>?_) (by rw[hs,hs2]) (by rw[hs2];rfl)));obtain⟨b1,b2,l1,l2,e,⟨xs,hq1⟩,⟨ys,hq2⟩,q⟩:=q1;subst e;obtain⟨v1,v2,rfl,r1',r2'⟩:=r1.two
 cases r1'
 cases r2';obtain⟨its1,rv1,p1,hz1⟩:=I1.sqG hq1;obtain⟨its2,rv2,p2,hz2⟩:=I1.sqG hq2;refine zk3 p1 p2 λh' hz hTI hTO hi1 hi2 hk=>wpAny_pyIter_zip hz ?_;have I2:Inv X pins σ H1 { s1 with heap:=h' }:=I1.kept (t':=s1.toks) hk;refine⟨_,[s1.heap.objs.size+4,s1.heap.objs.size+2,s1.heap.objs.size+3,s1.heap.objs.size,s1.heap.objs.size+1],_,_,H1,rfl,I2,zk4 (zipApart_new p1.lt p2.lt),⟨hz,hTI,⟨_,_,hTO⟩,hi1,hi2⟩,λb hb=>?_,q⟩;have hb':s1.heap.objs.size<=b:=by
  simp only[List.mem_cons,List.not_mem_nil,or_false]at hb;rcases hb with rfl|rfl|rfl|rfl|rfl <;> omega
 exact I1.fpOk hb' (I1.hok.fresh hb')
theorem zs1{K:PySem.W.Frag}{Kp:Hp->Hp->Prop}{H1:Hp}{b1 b2:Bool}{l m:Addr}{xs ys:List D}{vs ws:List V}(kp:∀H,Kp H1 H->(SqG b1 K H l vs/\Reps K H xs vs)/\SqG b2 K H m ws/\Reps K H ys ws):ItOk K Kp (Izg b1 b2 K l m) H1 (qh xs ys) where
 go:=λH i d k e=>by
  obtain⟨⟨h1,r1⟩,h2,r2⟩:=kp H k;unfold qh at e;rw[List.getElem?_zipWith]at e
  cases ex:xs[i]? with
  |none=>rw[ex]at e;cases e
  |some x=>
   cases ey:ys[i]? with
   |none=>rw[ex,ey]at e;cases e
   |some y=>
    rw[ex,ey]at e
    cases e;obtain⟨v,e1,q1⟩:=r1.get ex;obtain⟨w,e2,q2⟩:=r2.get ey;refine⟨⟨vs,ws,v,w,h1,h2,e1,e2⟩,λz H' yl=>?_⟩;obtain⟨p,v',w',hp,rfl,rfl,y1,y2⟩:=yl;have z1:=y1 vs h1;have z2:=y2 ws h2;rw[e1]at z1;rw[e2]at z2
    cases z1
    cases z2;exact⟨ya hp _,.tup (SqT.of zp) (.cons (q1.same (ya hp _)) (.cons (q2.same (ya hp _)) .nil))⟩
 stop:=λH k=>by
  obtain⟨⟨h1,r1⟩,h2,r2⟩:=kp H k;refine⟨vs,ws,h1,h2,?_⟩;unfold qh;rw[List.length_zipWith,<-r1.length,<-r2.length];omega
def zs2(t:DTF):DTF:=λσ Q=>t σ λds=>match ds with
 |[.list xs,.list ys]=>Q (qh xs ys)
 |[.list xs,.tuple ys]=>Q (qh xs ys)
 |[.tuple xs,.list ys]=>Q (qh xs ys)
 |[.tuple xs,.tuple ys]=>Q (qh xs ys)
 |_=>False
theorem Rep.seqP{K:PySem.W.Frag}{H:Hp}{d:D}{v:V}{xs:List D}(h:Rep K H d v)(e:d=.list xs\/d=.tuple xs):∃b a vs,v=.ref a/\∀H',Pers H H'->SqG b K H' a vs/\Reps K H' xs vs:=by
 cases h with
 |lst hf r=>
  rcases e with e|e
  ·cases e;exact⟨false,_,_,rfl,λH' p=>⟨p.sqF hf,r.mono p⟩⟩
  ·cases e
 |tup hf r=>
  rcases e with e|e
  ·cases e
  ·cases e;exact⟨true,_,_,rfl,λH' p=>⟨p.sqT hf,r.mono p⟩⟩
 |_=>rcases e with e|e <;> cases e
theorem RepT.seqS{K:PySem.W.Frag}{H:Hp}{d:D}{v:V}{xs:List D}(h:RepT K H d v)(e:d=.list xs\/d=.tuple xs):∃b a vs,v=.ref a/\∀H',Same H H'->SqG b K H' a vs/\Reps K H' xs vs:=by
 rcases h with h |⟨ys,rfl,a,vs,rfl,hf,r⟩
 ·obtain⟨b,a,vs,e,k⟩:=h.seqP e;exact⟨b,a,vs,e,λH' s=>k H' s.pers⟩
 ·rcases e with e|e
  ·cases e;exact⟨false,a,vs,rfl,λH' s=>⟨RepL.sq' s hf,r.same s⟩⟩
  ·cases e
theorem zla {ds:List D}{Q:List D->Prop} (h:match ds with
 |[.list xs,.list ys]=>Q (qh xs ys)
 |[.list xs,.tuple ys]=>Q (qh xs ys)
 |[.tuple xs,.list ys]=>Q (qh xs ys)
 |[.tuple xs,.tuple ys]=>Q (qh xs ys)
 |_=>False):∃d1 d2 xs ys,ds = [d1,d2]/\(d1=.list xs\/d1=.tuple xs)/\(d2=.list ys\/d2=.tuple ys)/\Q (qh xs ys):=by
 split at h
 ·exact⟨_,_,_,_,rfl,.inl rfl,.inl rfl,h⟩
 ·exact⟨_,_,_,_,rfl,.inl rfl,.inr rfl,h⟩
 ·exact⟨_,_,_,_,rfl,.inr rfl,.inl rfl,h⟩
 ·exact⟨_,_,_,_,rfl,.inr rfl,.inr rfl,h⟩
 ·exact h.elim
theorem zci{elts:List Expr}{x1}{tpos:Pos}(hg:Gl X "zip")(hm:X.mg "zip" = none)(ha:DAv X [a,b] t)(hs:starEach [a,b] X.env = [(false,eval a X.env),(false,eval b X.env)]:=by rfl)(hs2:starEach [b] X.env = [(false,eval b X.env)]:=by rfl):
  DIw X (.Tuple elts x1 tpos) (.Call (.Name "zip" p) [a,b] [] pos) (zs2 t) :=
 ⟨λpins s σ H R I ⟨H₀,σD,QD,ok,q,k⟩=>zpo hg hm ha.pa (by first|exact boot_zip|rfl|decide +kernel) hs hs2 pins s σ H R I ⟨H₀,σD,_,ok,q,λvs H1 ds s1 r1 q1=>by
  obtain⟨d1,d2,xs,ys,rfl,e1,e2,q2⟩:=zla q1;obtain⟨v,w,rfl,r,r2⟩:=r1.two;obtain⟨b1,l,vs,rfl,k1⟩:=r.seqS e1;obtain⟨b2,m,ws,rfl,k2⟩:=r2.seqS e2;exact⟨b1,b2,l,m,rfl,⟨vs,(k1 _ (Same.refl _)).1⟩,⟨ws,(k2 _ (Same.refl _)).1⟩,k _ _ _ s1 (zs1 λH' pr=>⟨k1 H' pr,k2 H' pr⟩) q2⟩⟩⟩
def vx:Nat->List D->List D
 |_,[]=>[]
 |k,x::xs=>.tuple [.int k,x]::vx (k+1) xs
theorem zeo:∀{xs:List D}{k i:Nat}{x:D},(vx k xs)[i]?=some x->∃y,xs[i]?=some y/\x=.tuple [.int ((k+i:Nat):Int),y]
 |[],_,_,_,e=>by simp[vx]at e
 |y::ys,k,0,x,e=>by simp[vx]at e;subst e;exact⟨y,rfl,rfl⟩
 |y::ys,k,i+1,x,e=>by
  simp only[vx,List.getElem?_cons_succ]at e;obtain⟨z,e1,e2⟩:=zeo e;refine⟨z,by simpa using e1,?_⟩;rw[e2,show k+1+i=k+(i+1) by omega]
theorem zep:∀(k:Nat) (xs:List D),(vx k xs).length=xs.length
 |_,[]=>rfl
 |k,_::xs=>by simp[vx,zep (k+1) xs]
abbrev DTG:=D->DSt->(DSt->Prop)->Prop
abbrev zfo:=List D->DSt->(DSt->Prop)->Prop
structure DG(X:Cx)(tg:Expr)(is:List Nat)(g:DTG):Prop where
 run:∀(pins:List (Addr×Obj)) (s:Shared) (σ:St) (H H₀:Hp) (σD:DSt) (v:V) (u:Value) (d:D) (Q:DSt->Prop),Inv X pins σ H s->DOk X.K H₀ H σD σ->RelV v u->Rep X.K H d v->g d σD Q ->
  wpAny (model X.prog X.w) X.A (assign tg X.env u) (λ_ s'=>∃σ' σD',Inv X pins σ' H s'/\DOk X.K H₀ H σD' σ'/\(∀j,j∉is->σ'[j]?=σ[j]?)/\Q σD') X.xe s
structure DGs(X:Cx)(ts:List Expr)(is:List Nat)(g:zfo):Prop where
 run:∀(pins:List (Addr×Obj)) (s:Shared) (σ:St) (H H₀:Hp) (σD:DSt) (vs:List V) (us:List Value) (ds:List D) (Q:DSt->Prop),Inv X pins σ H s->DOk X.K H₀ H σD σ->Vals vs us->Reps X.K H ds vs->g ds σD Q ->
  wpAny (model X.prog X.w) X.A (assignInOrder ((assignEach ts X.env).map (·.2)) us) (λ_ s'=>∃σ' σD',Inv X pins σ' H s'/\DOk X.K H₀ H σD' σ'/\(∀j,j∉is->σ'[j]?=σ[j]?)/\Q σD') X.xe s
def zc1(i:Nat):DTG:=λd σ Q=>Q (σ.set i (some (.val d)))
theorem zo{i:Nat}{x:Str}(hN:X.N.Nodup)(hi:X.N[i]?=some x)(hx:Loc X.env.scope x)(hf:X.fn x=true\/X.env.scope.names.lookup x=some .local:=by first|exact .inl rfl|exact .inr rfl|assumption):DG X (.Name x pos) [i] (zc1 i) :=
 ⟨λpins s σ H H₀ σD v u d Q I ok r rp q=>wpAny_assign_Name (v5 I hN hi hx r (λs' I'=>⟨_,_,I',ok.setV rp i,λj hj=>List.getElem?_set_ne (λz=>hj (by simp[z])),q⟩) hf)⟩
def zne:zfo:=λds σ Q=>ds = []/\Q σ
def zid(g:DTG)(gs:zfo):zfo:=λds σ Q=>match ds with
 |d::r=>g d σ λσ'=>gs r σ' Q
 |[]=>False
theorem y8:DGs X [] [] zne:=⟨λpins s σ H H₀ σD vs us ds Q I ok r rp q=>by
 obtain⟨rfl,q⟩:=q
 cases rp
 cases r;exact assignInOrder_nil ⟨σ,σD,I,ok,λ_ _=>rfl,q⟩⟩
theorem zq{e:Expr}{es:List Expr}{i1 i2:List Nat}{g:DTG}{gs:zfo}(h1:DG X e i1 g)(h2:DGs X es i2 gs)
  (hs:(assignEach (e::es) X.env).map (·.2)=assign e X.env::(assignEach es X.env).map (·.2):=by rfl):DGs X (e::es) (i1++i2) (zid g gs):=⟨λpins s σ H H₀ σD vs us ds Q I ok r rp q=>by
 cases rp with
 |nil=>exact q.elim
 |cons rd rds=>
  cases r with
  |cons r rr=>
   rw[hs];refine assignInOrder_cons (thn (h1.run pins s σ H H₀ σD _ _ _ _ I ok r rd q) λ_ s1 zr48=>?_);obtain⟨σ1,σD1,I1,ok1,f1,q1⟩:=zr48;refine thn (h2.run pins s1 σ1 H H₀ σD1 _ _ _ Q I1 ok1 rr rds q1) λ_ s2 ⟨σ2,σD2,I2,ok2,f2,q2⟩=>⟨σ2,σD2,I2,ok2,λj hj=>?_,q2⟩
   rw[f2 j (λz=>hj (List.mem_append_right _ z)),f1 j (λz=>hj (List.mem_append_left _ z))]⟩
def znf(n:Nat)(gs:zfo):DTG:=λd σ Q=>match d with
 |.tuple xs=>xs.length=n/\gs xs σ Q
 |_=>False
theorem zs3{es:List Expr}{k:Nat}{is:List Nat}{gs:zfo}{n:Nat}(hc:X.calm=true)(h:DGs X es is gs)(hn:(assignEach es X.env).length=n:=by rfl)(hst:(assignEach es X.env).findIdx? (·.1)=none:=by rfl):DG X (.Tuple es k pos) is (znf n gs):=⟨λpins s σ H H₀ σD v u d Q I ok r rp q=>by
 cases d with
 |tuple xs=>
  obtain⟨hl,q⟩:=q
  cases rp with
  |tup hq rr=>
   cases r;obtain⟨its,rv,ht,hz⟩:=I.tuple hq;refine assign_Tuple_tuple (I.ok.hd hc) ht (by simp[hn,<-hl,<-rv.length,rr.length]) hst λh' hx=>?_;have I1:Inv X pins σ H { s with heap:=h' }:=I.kept (t':=s.toks) λb o e=>hx b o (Nat.ne_of_lt (Heap.lt_size e)) e;exact h.run pins _ σ H H₀ σD _ _ xs Q I1 ok (by simpa using rv) rr q
 |_=>exact q.elim⟩
def lcD(f:D->(Option D->Prop)->Prop):List D->(List D->Prop)->Prop
 |[],Q=>Q []
 |d::ds,Q=>f d λo=>lcD f ds λys=>Q (match o with|some y=>y::ys|none=>ys)
def zgx:Option W->Option W
 |some (.own (.lst xs))=>some (.vw xs)
 |some (.own (.dct xs))=>some (.vd xs)
 |some (.own (.nst _ _))=>none
 |some (.own (.anc _ _))=>none
 |some (.own (.ins _ _))=>none
 |some (.own (.mix _))=>none
 |some (.own (.tk _))=>none
 |some (.own (.dcT _))=>none
 |some (.tmp _)=>none
 |w=>w
def x0(k:Nat)(js:List Nat)(σ:DSt):DSt:=List.replicate k none++js.map λj=>zgx (σ[j]?).join
def lcF(g:DTG)(tt:DTT)(te:DTE)(σ0:DSt):D->(Option D->Prop)->Prop:=λd k=>g d σ0 λσ2=>tt σ2 λb=>if b=true then te σ2 λy=>k (some y) else k none
def dLC(k:Nat)(js:List Nat)(ti:DTF)(g:DTG)(tt:DTT)(te:DTE):DTF:=λσ Q=>ti σ λds=>ds.length<=sizeLine/\lcD (lcF g tt te (x0 k js σ)) ds Q
structure DTs(X:Cx)(ifs:List Expr)(t:DTT):Prop where
 pts:PTs X ifs (cnT X.K t)
def zgy:DTT:=λ_ Q=>Q true
theorem xf:DTs X [] zgy:=⟨λpins s σ H Q I zq37=>by obtain⟨H₀,σD,QD,ok,q,k⟩:=zq37;exact zpb pins s σ H Q I (k true H (Same.refl _) q)⟩
theorem zjs{c:Expr}{t:DTT}(h:DT X c t):DTs X [c] t:=⟨zpc h.pt⟩
theorem Slots.keepN{K:PySem.W.Frag}{H₀ H:Hp}{σD:DSt}{σ:St}{fp:List Addr}(h:Slots K H₀ H σD σ fp):∀{σ':St},σ'.length=σ.length->(∀j:Nat,σD[j]?=some Option.none\/σ'[j]?=σ[j]?)->Slots K H₀ H σD σ' fp:=by
 induction h with
 |nil=>intro σ' hl _;cases σ' with
  |nil=>exact .nil
  |cons _ _=>simp at hl
 |none t ih=>
  intro σ' hl k
  cases σ' with
  |nil=>simp at hl
  |cons x σ'=>exact .none (ih (by simpa using hl) λj=>by simpa using k (j+1))
 |val r t ih=>
  intro σ' hl k
  cases σ' with
  |nil=>simp at hl
  |cons x σ'=>
   have:=k 0;simp at this;subst this;exact .val r (ih (by simpa using hl) λj=>by simpa using k (j+1))
 |vw r t ih=>
  intro σ' hl k
  cases σ' with
  |nil=>simp at hl
  |cons x σ'=>
   have:=k 0;simp at this;subst this;exact .vw r (ih (by simpa using hl) λj=>by simpa using k (j+1))
 |vd r t ih=>
  intro σ' hl k
  cases σ' with
  |nil=>simp at hl
  |cons x σ'=>
   have:=k 0;simp at this;subst this;exact .vd r (ih (by simpa using hl) λj=>by simpa using k (j+1))
 |exc r t ih=>
  intro σ' hl k
  cases σ' with
  |nil=>simp at hl
  |cons x σ'=>
   have:=k 0;simp at this;subst this;exact .exc r (ih (by simpa using hl) λj=>by simpa using k (j+1))
 |scr r t ih=>
  intro σ' hl k
  cases σ' with
  |nil=>simp at hl
  |cons x σ'=>
   have:=k 0;simp at this;subst this;exact .scr r (ih (by simpa using hl) λj=>by simpa using k (j+1))
 |pen r t ih=>
  intro σ' hl k
  cases σ' with
  |nil=>simp at hl
  |cons x σ'=>
   have:=k 0;simp at this;subst this;exact .pen r (ih (by simpa using hl) λj=>by simpa using k (j+1))
 |tmp r t ih=>
  intro σ' hl k
  cases σ' with
  |nil=>simp at hl
  |cons x σ'=>
   have:=k 0;simp at this;subst this;exact .tmp r (ih (by simpa using hl) λj=>by simpa using k (j+1))
 |own r t ih=>
  intro σ' hl k
  cases σ' with
  |nil=>simp at hl
  |cons x σ'=>
   have:=k 0;simp at this;subst this;exact .own r (ih (by simpa using hl) λj=>by simpa using k (j+1))
theorem DOk.keepN{K:PySem.W.Frag}{H₀ H:Hp}{σD:DSt}{σ σ':St}(h:DOk K H₀ H σD σ)(hl:σ'.length=σ.length)(k:∀j:Nat,σD[j]?=some Option.none\/σ'[j]?=σ[j]?):DOk K H₀ H σD σ':=let ⟨s,fp,sl,r⟩:=h;⟨s,fp,sl.keepN hl k,r⟩
theorem DOk.block{K:PySem.W.Frag}{H₀ H:Hp}{σD:DSt}{σ:St}(h:DOk K H₀ H σD σ)(k:Nat)(js:List Nat):DOk K H H (x0 k js σD) (xc k js σ):=by
 refine⟨Same.refl _,[],?_,List.nodup_nil,λa ha=>by cases ha⟩;have two:∀js:List Nat,Slots K H H (js.map λj=>zgx (σD[j]?).join) (js.map λj=>(σ[j]?).join) []:=by
  intro js
  induction js with
  |nil=>exact .nil
  |cons j js ih=>
   simp only[List.map_cons];have nn:∀v,Slots K H H (none::js.map λj=>zgx (σD[j]?).join) (v::js.map λj=>(σ[j]?).join) []:=λv=>.none ih
   cases e:σD[j]? with
   |none=>exact nn _
   |some o=>
    cases o with
    |none=>exact nn _
    |some w=>
     cases w with
     |val d=>
      obtain⟨v,e1,r⟩:=h.val e;rw[e1];exact .val r ih
     |vw xs=>
      obtain⟨v,e1,r⟩:=h.vw e;rw[e1];exact .vw r ih
     |vd xs=>
      obtain⟨v,e1,r⟩:=h.vd e;rw[e1];exact .vd r ih
     |exc xs=>
      obtain⟨v,e1,r⟩:=h.exc e;rw[e1];exact .exc r ih
     |scr ns=>
      obtain⟨a,e1,r⟩:=h.scr e;rw[e1];exact .scr r ih
     |pen=>
      obtain⟨a,e1,r⟩:=h.pen e;rw[e1];exact .pen r ih
     |tmp d=>exact nn _
     |own o=>
      cases o with
      |lst xs=>
       obtain⟨a,vs,e1,e2,r,_⟩:=h.ownL e;rw[e1];exact .vw ⟨a,vs,rfl,.inl e2,r⟩ ih
      |dct xs=>
       obtain⟨a,vs,e1,e2,r,_⟩:=h.ownD e;rw[e1];exact .vd ⟨a,vs,rfl,e2,r⟩ ih
      |nst xss ds=>exact nn _
      |anc _ _=>exact nn _
      |ins _ _=>exact nn _
      |mix _=>exact nn _
      |tk _=>exact nn _
      |dcT _=>exact nn _
 unfold x0 xc
 induction k with
 |zero=>exact two js
 |succ k ih=>exact .none ih
theorem zgz{g:DTG}{tt:DTT}{te:DTE}{k:Nat}{js is:List Nat}{σ:St}{σD:DSt}{H₀ H1:Hp}{J:It}{ds:List D}{QD:List D->Prop}{Dd:Addr}{gL:TG}(ok:DOk X.K H₀ H1 σD σ)(it:ItOk X.K Same J H1 ds)(hz:ds.length<=sizeLine)
  (hg:∀d v σ' H' Q (σ0:DSt),DOk X.K H1 H' σ0 σ'->Rep X.K H' d v->g d σ0 Q->gL v σ' H' (λσ2 H2=>H2=H'/\σ2.length=σ'.length/\(∀j,j∉is->σ2[j]?=σ'[j]?)/\∃σD2,DOk X.K H1 H' σD2 σ2/\Q σD2))
  (mono:∀v σ' H' (Q Q':St->Hp->Prop),(∀σ2 H2,Q σ2 H2->Q' σ2 H2)->gL v σ' H' Q->gL v σ' H' Q')
  (his:∀j∈is,j<k) (hn:H1 Dd=none) (q:lcD (lcF g tt te (x0 k js σD)) ds QD) :
  zfg J Dd gL (cnT X.K tt) (cnE X.K te) (xc k js σ) H1 (λv H'=>∃a vs xs,v=.ref a/\Same H1 H'/\H1 a=none/\H' a=some (.lst vs)/\Reps X.K H' xs vs/\QD xs):=by
 have sub:∀{Q1:List D->Prop}{i:Nat}{d:D},ds[i]?=some d->lcD (lcF g tt te (x0 k js σD)) (ds.drop i) Q1=lcF g tt te (x0 k js σD) d (λo=>lcD (lcF g tt te (x0 k js σD)) (ds.drop (i+1)) λys=>Q1 (match o with|some y=>y::ys|none=>ys)):=λ{Q1 i d} e=>by
  obtain⟨hi,e'⟩:=List.getElem?_eq_some_iff.mp e;rw[List.drop_eq_getElem_cons hi,e'];rfl
 refine⟨λi m σ' H'=>m=ds.length-i/\i<=ds.length/\Same H1 H'/\σ'.length=(xc k js σ).length/\(∀j,k<=j->σ'[j]?=(xc k js σ)[j]?)/\∃acc vs,H' Dd=some (.lst vs)/\Reps X.K H' acc vs/\acc.length<=i/\lcD (lcF g tt te (x0 k js σD)) (ds.drop i) (λys=>QD (acc++ys)),
  ⟨ds.length,rfl,Nat.zero_le _,ya hn _,rfl,λ_ _=>rfl,[],[],zp,.nil,Nat.le_refl _,q⟩,?_⟩
 intro i m σ' H' zz;refine gg λG zk=>?_;obtain⟨zem,hi,sm,hl,fr,acc,vs,eD,ra,la,q1⟩:=zz;refine zk ?_;clear zk;subst zem;have ok1:DOk X.K H1 H' (x0 k js σD) σ':=by
  refine DOk.keepN ((ok.block k js).after sm) hl λj=>?_
  by_cases hj:j<k
  ·left;unfold x0;rw[List.getElem?_append_left (by simpa using hj),List.getElem?_replicate,if_pos hj]
  ·right;exact fr j (by omega)
 by_cases hlt:i<ds.length
 ·have e:ds[i]?=some ds[i]:=by simp[hlt]
  obtain⟨go,yl⟩:=it.go H' i ds[i] sm e;refine .inr ⟨go,λx H2 y=>?_⟩;obtain⟨s2,r2⟩:=yl x H2 y;rw[sub e]at q1;refine mono _ _ _ _ _ (λσ2 H3 z=>?_) (hg ds[i] x σ' H2 _ _ (ok1.after s2) r2 q1);obtain⟨rfl,l2,f2,σD2,ok2,q2⟩:=z;have fr2:∀j,k<=j->σ2[j]?=(xc k js σ)[j]?:=λj hj=>by rw[f2 j (λz=>absurd (his j z) (by omega)),fr j hj]
  refine⟨H1,σD2,_,ok2,q2,λb H4 s4 q4=>?_⟩
  cases b with
  |true=>
   rw[if_pos rfl]at q4 ⊢;refine⟨H1,σD2,_,ok2.after s4,q4,λy H5 dy s5 r5 q5=>?_⟩;have eD5:=s5 _ _ (s4 _ _ (s2 _ _ eD));have ra5:=((ra.same s2).same s4).same s5;refine⟨vs,eD5,by rw[<-ra5.length];omega,ds.length-(i+1),by omega,rfl,hlt,?_,l2.trans hl,fr2,acc ++ [dy],vs ++ [y],zp,?_,by rw[List.length_append,List.length_singleton];omega,?_⟩
   ·exact Same.but (((sm.trans s2).trans s4).trans s5) hn But.write
   ·exact(ra5.append (.cons r5 .nil)).mono (wz eD5 rfl)
   ·simpa using q5
  |false=>
   rw[if_neg Bool.false_ne_true]at q4 ⊢;exact⟨ds.length-(i+1),by omega,rfl,hlt,(sm.trans s2).trans s4,l2.trans hl,fr2,acc,vs,s4 _ _ (s2 _ _ eD),(ra.same s2).same s4,by omega,by simpa using q4⟩
 ·have e:i=ds.length:=by omega
  subst e;rw[List.drop_length]at q1;refine .inl ⟨it.stop H' sm,Dd,vs,acc,rfl,sm,hn,eD,ra,?_⟩;have:lcD (lcF g tt te (x0 k js σD)) [] (λys=>QD (acc++ys)):=q1;simpa[lcD]using this
def cnG(K:PySem.W.Frag)(is:List Nat)(g:DTG):TG:=λv σ H Q=>∃H₀ σD d QD,DOk K H₀ H σD σ/\Rep K H d v/\g d σD QD/\∀σ' σD',σ'.length=σ.length->DOk K H₀ H σD' σ'->(∀j,j∉is->σ'[j]?=σ[j]?)->QD σD'->Q σ' H
theorem DG.pg{is:List Nat}{g:DTG}(h:DG X tg is g):PG X tg (cnG X.K is g):=λpins s σ H v u Q I r zq87=>by obtain⟨H₀,σD,d,QD,ok,rp,q,k⟩:=zq87;exact thn (h.run pins s σ H H₀ σD v u d QD I ok r rp q) λ_ s' zq1=>by obtain⟨σ',σD',I',ok',f,qd⟩:=zq1;exact⟨σ',H,I',k σ' σD' (by rw[I'.len,I.len]) ok' f qd⟩
variable {elt:Expr}{ifs:List Expr}{scope:Scope}{cl:List (Str×Addr)}{N' capt:List Str}{k:Nat}{js is:List Nat}{ti:DTF}{g:DTG}{tt:DTT}{te:DTE}
theorem qe(hc:X.calm=true)(L:zdx X scope cl N' capt k js)
  (hi:DIw X tg iter ti) (hg:∀C fp s2 H2,DG (yk X N' scope cl C fp s2 H2) tg is g) (ht:∀C fp s2 H2,DTs (yk X N' scope cl C fp s2 H2) ifs tt) (he:∀C fp s2 H2,DE (yk X N' scope cl C fp s2 H2) elt te)
  (his:∀j∈is,j<k:=by decide) (hs:∀x,foldedSetIterable iter X.env x=pure x:=by intro _;rfl):DF X (.ListComp elt [⟨tg,iter,ifs,0⟩] scope pos) (dLC k js ti g tt te) :=
 DF.of (zux hc L hi.pi (λC fp s2 H2=>(hg C fp s2 H2).pg) (λC fp s2 H2=>(ht C fp s2 H2).pts) (λC fp s2 H2=>(he C fp s2 H2).pe) hs) λσ H H₀ σD QD ok q=>⟨H₀,σD,_,ok,q,λJ H1 ds s1 it q1 Dd hn=>by
  have z:=zgz (k:=k) (js:=js) (is:=is) (gL:=cnG X.K is g) (Dd:=Dd) (ok.after s1) it q1.1 (λd v σ' H' Q σ0 ok0 r0 q0=>⟨H1,σ0,d,Q,ok0,r0,q0,λσ2 σD2 l2 ok2 f2 q2=>⟨rfl,l2,f2,σD2,ok2,q2⟩⟩)
   (λv σ' H' Q Q' m zq7=>by obtain⟨a,b,c,d,e1,e2,e3,e4⟩:=zq7;exact⟨a,b,c,d,e1,e2,e3,λσ2 σD2 l o f q=>m _ _ (e4 σ2 σD2 l o f q)⟩) his hn q1.2
  obtain⟨W,w0,turn⟩:=z;refine⟨W,w0,λi m σ' H' w=>?_⟩;rcases turn i m σ' H' w with⟨st,a,vs,xs,e,sm,n,e2,r,qd⟩|h
  ·exact .inl ⟨st,a,vs,xs,e,s1.trans sm,s1.free n,e2,r,qd⟩
  ·exact .inr h⟩
end
inductive Ret where
 |val (d:D)|new (xs:List D)
def Ret.d:Ret->D
 |.val d=>d
 |.new xs=>.list xs
abbrev DSp:=List W->(Ret->Prop)->Prop
def zfp(K:PySem.W.Frag)(H H':Hp):Ret->V->Prop
 |.val d,v=>Rep K H' d v
 |.new xs,v=>∃a vs,v=.ref a/\H a=none/\H' a=some (.lst vs)/\Reps K H' xs vs
def yc(K:PySem.W.Frag)(sp:DSp):Sp:=λvs H Q _=>∃ws QD,RepWs K H ws vs/\sp ws QD/\∀v H' r,Same H H'->zfp K H H' r v->QD r->Q v H'
def zeq(sp:DSp)(t:DTP):DTE:=λσ Q=>t σ λws=>sp ws λr=>Q r.d
def zie(sp:DSp)(t:DTP):DTF:=λσ Q=>t σ λws=>sp ws λr=>match r with
 |.new xs=>Q xs
 |.val _=>False
section
variable {X:Cx}{e:Expr}{es:List Expr}{k k':Nat}{x:Str}{ps:List Str}{sp:DSp}{t:DTP}{p pos:Pos}
theorem zg0{pins:List (Addr×Obj)}{σ:St}{H H₀:Hp}{σD:DSt}{s:Shared}{Q:Ret->Prop}(C:yg X.prog X.w X.K X.mg X.base k x ps (yc X.K sp))(hr:Room k' X.A)(hg:Gl X x)(ha:DPs X (e::es) t)(hk:k<=k')
  (hdb:(x ==("__debug__" : Str))=false) (he:starEach (e::es) X.env=(false,eval e X.env)::starEach es X.env) (hpl:(backTo pos (starEach es X.env)).any (·.1)=false) (I:Inv X pins σ H s) (ok:DOk X.K H₀ H σD σ) (q:t σD λws=>sp ws Q) :
  wpAny (model X.prog X.w) X.A (eval (.Call (.Name x p) (e::es) [] pos) X.env) (λu s'=>∃v H' r,Inv X pins σ H' s'/\RelV v u/\Same H H'/\zfp X.K H H' r v/\Q r) X.xe s:=by
 refine thn (zcs C hr hg ha.pa hk hdb he hpl pins s σ H (λv H'=>∃r,Same H H'/\zfp X.K H H' r v/\Q r) I ?_) λu s' zq26=>by obtain⟨v,H',I',r,z,sm,rp,qd⟩:=zq26;exact⟨v,H',z,I',r,sm,rp,qd⟩
 refine⟨H₀,σD,_,ok,q,λvs H1 ws s1 r1 q1=>⟨ws,Q,by rw[List.append_nil];exact r1,q1,λv H' r s2 rp qd=>⟨r,s1.trans s2,?_,qd⟩⟩⟩
 cases r with
 |val d=>exact rp
 |new xs=>obtain⟨a,vs,e1,n,e2,r⟩:=rp;exact⟨a,vs,e1,s1.free n,e2,r⟩
theorem zh(C:yg X.prog X.w X.K X.mg X.base k x ps (yc X.K sp))(hr:Room k' X.A)(hg:Gl X x)(ha:DPs X (e::es) t)(hk:k<=k':=by decide)(hdb:(x ==("__debug__" : Str))=false:=by decide)
  (he:starEach (e::es) X.env=(false,eval e X.env)::starEach es X.env:=by rfl) (hpl:(backTo pos (starEach es X.env)).any (·.1)=false:=by rfl):DE X (.Call (.Name x p) (e::es) [] pos) (zeq sp t) :=
 ⟨λpins s σ H H₀ σD Q I ok q=>thn (zg0 C hr hg ha hk hdb he hpl I ok q) λu s' zq83=>by
  obtain⟨v,H',r,I',rv,sm,rp,qd⟩:=zq83
  cases r with
  |val d=>exact⟨v,H',d,I',rv,sm,rp,qd⟩
  |new xs=>
   obtain⟨a,vs,rfl,n,e,r⟩:=rp;obtain⟨H'',J,sm',r'⟩:=zal I' sm n e r;exact⟨.ref a,H'',.list xs,J,rv,sm',r',qd⟩⟩
theorem zpp(C:yg X.prog X.w X.K X.mg X.base k x ps (yc X.K sp))(hr:Room k' X.A)(hg:Gl X x)(ha:DPs X (e::es) t)(hk:k<=k':=by decide)(hdb:(x ==("__debug__" : Str))=false:=by decide)
  (he:starEach (e::es) X.env=(false,eval e X.env)::starEach es X.env:=by rfl) (hpl:(backTo pos (starEach es X.env)).any (·.1)=false:=by rfl):DF X (.Call (.Name x p) (e::es) [] pos) (zie sp t) :=
 ⟨λpins s σ H H₀ σD Q I ok q=>thn (zg0 C hr hg ha hk hdb he hpl I ok q) λu s' zq83=>by
  obtain⟨v,H',r,I',rv,sm,rp,qd⟩:=zq83
  cases r with
  |val d=>exact qd.elim
  |new xs=>
   obtain⟨a,vs,rfl,n,e,r⟩:=rp;exact⟨a,H',vs,xs,rv,I',sm,n,e,r,qd⟩⟩
end
structure vy where
 nx:DSt->Prop
 rt:Ret->Prop
 bk:DSt->Prop:=λ_=>False
 ct:DSt->Prop:=λ_=>False
abbrev DTS:=vy->DSt->Prop
def DSP(X:Cx)(pins:List (Addr×Obj))(H₀ H:Hp)(Dn:vy)(f:Flow)(s':Shared):Prop :=
 match f with
 |.next=>∃σ' H' σD',Inv X pins σ' H' s'/\DOk X.K H₀ H' σD' σ'/\Pers H H'/\Dn.nx σD'
 |.brk=>∃σ' H' σD',Inv X pins σ' H' s'/\DOk X.K H₀ H' σD' σ'/\Pers H H'/\Dn.bk σD'
 |.cont=>∃σ' H' σD',Inv X pins σ' H' s'/\DOk X.K H₀ H' σD' σ'/\Pers H H'/\Dn.ct σD'
 |.ret u=>∃v σ' H' r,Inv X pins σ' H' s'/\RelV v u/\Same H₀ H'/\zfp X.K H₀ H' r v/\Dn.rt r
structure DS(X:Cx)(st:Stmt)(t:DTS):Prop where
 run:∀(pins:List (Addr×Obj)) (s:Shared) (σ:St) (H H₀:Hp) (σD:DSt) (Dn:vy),Inv X pins σ H s->DOk X.K H₀ H σD σ->t Dn σD->wpAny (model X.prog X.w) X.A (exec st X.env) (DSP X pins H₀ H Dn) X.xe s
structure DSs(X:Cx)(st:List Stmt)(t:DTS):Prop where
 run:∀(pins:List (Addr×Obj)) (s:Shared) (σ:St) (H H₀:Hp) (σD:DSt) (Dn:vy),Inv X pins σ H s->DOk X.K H₀ H σD σ->t Dn σD->wpAny (model X.prog X.w) X.A (execs st X.env) (DSP X pins H₀ H Dn) X.xe s
theorem DSP.back{X:Cx}{pins:List (Addr×Obj)}{H₀ H H1:Hp}{Dn:vy}{f:Flow}{s':Shared}(p:Pers H H1)(h:DSP X pins H₀ H1 Dn f s'):DSP X pins H₀ H Dn f s':=by
 cases f with
 |next=>obtain⟨a,b,c,e1,e2,e3,e4⟩:=h;exact⟨a,b,c,e1,e2,p.trans e3,e4⟩
 |brk=>obtain⟨a,b,c,e1,e2,e3,e4⟩:=h;exact⟨a,b,c,e1,e2,p.trans e3,e4⟩
 |cont=>obtain⟨a,b,c,e1,e2,e3,e4⟩:=h;exact⟨a,b,c,e1,e2,p.trans e3,e4⟩
 |ret u=>exact h
def zng(K:PySem.W.Frag)(H₀ H:Hp)(Dn:vy):zhv where
 nx:=λσ' H'=>∃σD',DOk K H₀ H' σD' σ'/\Pers H H'/\Dn.nx σD'
 bk:=λσ' H'=>∃σD',DOk K H₀ H' σD' σ'/\Pers H H'/\Dn.bk σD'
 ct:=λσ' H'=>∃σD',DOk K H₀ H' σD' σ'/\Pers H H'/\Dn.ct σD'
 rt:=λv H'=>∃r,Same H₀ H'/\zfp K H₀ H' r v/\Dn.rt r
section
variable {X:Cx}{st:Stmt}{sts rest:List Stmt}{t u:DTS}{e:Expr}{te:DTE}{tf:DTF}{pos:Pos}
theorem SP.dsp{pins:List (Addr×Obj)}{H₀ H:Hp}{Dn:vy}{f:Flow}{s':Shared}(h:SP X pins (zng X.K H₀ H Dn) f s'):DSP X pins H₀ H Dn f s':=by
 cases f with
 |next=>obtain⟨a,b,e1,c,e2,e3,e4⟩:=h;exact⟨a,b,c,e1,e2,e3,e4⟩
 |brk=>obtain⟨a,b,e1,c,e2,e3,e4⟩:=h;exact⟨a,b,c,e1,e2,e3,e4⟩
 |cont=>obtain⟨a,b,e1,c,e2,e3,e4⟩:=h;exact⟨a,b,c,e1,e2,e3,e4⟩
 |ret u=>obtain⟨v,a,b,e1,e2,r,e3,e4,e5⟩:=h;exact⟨v,a,b,r,e1,e2,e3,e4,e5⟩
theorem DS.of{t':TS}(h:PS X st t')(k:∀σ H H₀ σD Dn,DOk X.K H₀ H σD σ->t Dn σD->t' (zng X.K H₀ H Dn) σ H):DS X st t :=
 ⟨λpins s σ H H₀ σD Dn I ok q=>thn (h pins s σ H _ I (k σ H H₀ σD Dn ok q)) λ_ _ z=>z.dsp⟩
def cnS(K:PySem.W.Frag)(t:DTS):TS:=λE σ H=>∃H₀ σD Dn,DOk K H₀ H σD σ/\t Dn σD/\(∀σ' H' σD',DOk K H₀ H' σD' σ'->Pers H H'->Dn.nx σD'->E.nx σ' H')/\(∀v H' r,Same H₀ H'->zfp K H₀ H' r v->Dn.rt r->E.rt v H') /\
 (∀σ' H' σD',DOk K H₀ H' σD' σ'->Pers H H'->Dn.bk σD'->E.bk σ' H')/\∀σ' H' σD',DOk K H₀ H' σD' σ'->Pers H H'->Dn.ct σD'->E.ct σ' H'
theorem DSs.ps(h:DSs X sts t):PSs X sts (cnS X.K t):=by
 intro pins s σ H E I zz;obtain⟨H₀,σD,Dn,ok,q,k1,k2,k3,k4⟩:=zz;refine thn (h.run pins s σ H H₀ σD Dn I ok q) λf s' z=>?_
 cases f with
 |next=>obtain⟨a,b,c,e1,e2,e3,e4⟩:=z;exact⟨a,b,e1,k1 a b c e2 e3 e4⟩
 |brk=>obtain⟨a,b,c,e1,e2,e3,e4⟩:=z;exact⟨a,b,e1,k3 a b c e2 e3 e4⟩
 |cont=>obtain⟨a,b,c,e1,e2,e3,e4⟩:=z;exact⟨a,b,e1,k4 a b c e2 e3 e4⟩
 |ret u=>obtain⟨v,a,b,r,e1,e2,e3,e4,e5⟩:=z;exact⟨v,a,b,e1,e2,k2 v b r e3 e4 e5⟩
def znh:DTS:=λDn σ=>Dn.nx σ
def zpq(t u:DTS):DTS:=λDn σ=>t { Dn with nx:=u Dn } σ
theorem yo:DSs X [] znh:=⟨λ_ _ σ H _ σD _ I ok h=>wpAny_execs_nil ⟨σ,H,σD,I,ok,Pers.refl _,h⟩⟩
theorem zc(h1:DS X st t)(h2:DSs X rest u):DSs X (st::rest) (zpq t u):=⟨λpins s σ H H₀ σD Dn I ok q=>by
 refine wpAny_execs_cons (thn (h1.run pins s σ H H₀ σD { Dn with nx:=u Dn } I ok q) λf s1 z=>?_)
 cases f with
 |next=>
  obtain⟨σ',H',σD',I',ok',p,q'⟩:=z;exact thn (h2.run pins s1 σ' H' H₀ σD' Dn I' ok' q') λ_ _ y=>y.back p
 |ret v=>exact z
 |brk=>exact z
 |cont=>exact z⟩
theorem ze(h1:DS X st t):DSs X [st] t:=⟨λpins s σ H H₀ σD Dn I ok q=>by
 refine wpAny_execs_cons (thn (h1.run pins s σ H H₀ σD Dn I ok q) λf s1 z=>?_)
 cases f with
 |next=>exact wpAny_execs_nil z
 |ret v=>exact z
 |brk=>exact z
 |cont=>exact z⟩
def zif:DTS:=λDn σ=>Dn.bk σ
theorem zni:DS X (.Break pos) zif:=⟨λ_ _ σ H _ σD _ I ok h=>wpAny_Break ⟨σ,H,σD,I,ok,Pers.refl _,h⟩⟩
def zig:DTS:=λ_ _=>False
theorem zg1:DS X st zig:=⟨λ_ _ _ _ _ _ _ _ _ h=>h.elim⟩
theorem zih{K:PySem.W.Frag}{H:Hp}{xss:List (List D)}{ds:List D}{v:V}{f1 f2:List Addr}(r:RepO K H (.nst xss ds) v f1)(r2:RepO K H (.nst xss ds) v f2):f1=f2:=by
 obtain⟨a,as,us,rfl,rfl,e,n,_⟩:=r;obtain⟨a2,as2,us2,e0,rfl,e2,n2,_⟩:=r2
 cases e0;rw[e]at e2;have h1:as.map V.ref++us=as2.map V.ref++us2:=HO.lst.inj (Option.some.inj e2);have h2:as.map V.ref=as2.map V.ref:=(List.append_inj h1 (by rw[List.length_map,List.length_map,n.len,n2.len])).1;have h3:as=as2:=(List.map_inj_right λx y h=>V.ref.inj h).mp h2;rw[h3]
theorem RepO.fp{K:PySem.W.Frag}{H:Hp}{o:O}{v:V}{f1 f2:List Addr}(r:RepO K H o v f1)(r2:RepO K H o v f2):f1=f2:=by
 induction o with
 |lst xs=>
  obtain⟨b,_,eb,rfl,_⟩:=r;obtain⟨b2,_,eb2,rfl,_⟩:=r2;rw[eb]at eb2
  cases eb2;rfl
 |dct xs=>
  obtain⟨b,_,eb,rfl,_⟩:=r;obtain⟨b2,_,eb2,rfl,_⟩:=r2;rw[eb]at eb2
  cases eb2;rfl
 |nst xss ds=>exact zih r r2
 |anc a o ih=>exact ih r.2 r2.2
 |tk ks=>
  obtain⟨b,eb,rfl,_⟩:=r;obtain⟨b2,eb2,rfl,_⟩:=r2;rfl
 |dcT xs=>
  obtain⟨b,_,eb,rfl,_⟩:=r;obtain⟨b2,_,eb2,rfl,_⟩:=r2;rw[eb]at eb2
  cases eb2;rfl
 |mix ms=>
  obtain⟨a,us,bs,rfl,rfl,e1,m⟩:=r;obtain⟨a2,us2,bs2,e0,rfl,e2,m2⟩:=r2
  cases e0;rw[e1]at e2
  cases e2;rw[m.fp m2]
 |ins c fs=>
  obtain⟨a,dx,C,fv,rfl,rfl,_,e1,_⟩:=r;obtain⟨a2,dx2,C2,fv2,e0,rfl,_,e2,_⟩:=r2
  cases e0;rw[e1]at e2
  cases e2;rfl
theorem DOk.frz{pins:List (Addr×Obj)}{s:Shared}{σ:St}{H H₀:Hp}{σD:DSt}{i:Nat}{xs:List D}(I:Inv X pins σ H s)(ok:DOk X.K H₀ H σD σ)(e:σD[i]?=some (some (.own (.lst xs)))):∃H',Inv X pins σ H' s/\DOk X.K H₀ H' (σD.set i (some (.val (.list xs)))) σ/\Pers H H':=by
 obtain⟨a,vs,e1,e2,r,n⟩:=ok.ownL e;obtain⟨o,J⟩:=I.frz e2;have ps:Pers H (upd H a (.frz o (.lst vs))):=wz e2 rfl;refine⟨_,J,?_,ps⟩;obtain⟨s0,fp,sl,nd,fr⟩:=id ok;have sm:Same H₀ (upd H a (.frz o (.lst vs))):=λb u hb=>by rw[zn (yj hb n)];exact s0 b u hb
 have hi:i<σD.length:=(List.getElem?_eq_some_iff.mp e).1
 -- the slot is forgotten first,then filled with the value
 obtain⟨_,fp1,sl1,nd1,fr1⟩:DOk X.K H₀ H (σD.set i none) (σ.set i (some (.ref a))):=ok.setN (some (.ref a)) i;have eσ:σ.set i (some (.ref a))=σ:=by
  refine List.ext_getElem? λj=>?_
  by_cases hj:i=j
  ·subst hj;rw[List.getElem?_set_self (by rw[<-ok.len];exact hi),e1]
  ·rw[List.getElem?_set_ne hj]
 rw[eσ]at sl1;have off:a∉fp1:=λha=>by
  -- every slot's own addresses apart: a belongs to slot i alone
  have key:∀{σD:DSt}{σ:St}{fp:List Addr},Slots X.K H₀ H σD σ fp->fp.Nodup->∀{i:Nat},σD[i]?=some (some (.own (.lst xs)))->σ[i]?=some (some (.ref a))->∀{fp1:List Addr},Slots X.K H₀ H (σD.set i none) σ fp1->a∉fp1:=by
   intro σD σ fp h;have det:∀{σD:DSt}{σ:St}{f1 f2:List Addr},Slots X.K H₀ H σD σ f1->Slots X.K H₀ H σD σ f2->f1=f2:=by
    intro σD σ f1 f2 h1
    induction h1 generalizing f2 with
    |nil=>intro h2;cases h2;rfl
    |none _ ih=>intro h2;cases h2 with|none t=>exact ih t
    |val _ _ ih=>intro h2;cases h2 with|val _ t=>exact ih t
    |vw _ _ ih=>intro h2;cases h2 with|vw _ t=>exact ih t
    |vd _ _ ih=>intro h2;cases h2 with|vd _ t=>exact ih t
    |exc _ _ ih=>intro h2;cases h2 with|exc _ t=>exact ih t
    |scr _ _ ih=>intro h2;cases h2 with|scr _ t=>exact ih t
    |pen _ _ ih=>intro h2;cases h2 with|pen _ t=>exact ih t
    |tmp _ _ ih=>intro h2;cases h2 with|tmp _ t=>exact ih t
    |@own o v f ws vs fp r _ ih=>
     intro h2
     cases h2 with
     |own r2 t=>
      cases o with
      |lst xs=>
       obtain⟨b,_,eb,rfl,_⟩:=r;obtain⟨b2,_,eb2,rfl,_⟩:=r2;rw[eb]at eb2
       cases eb2;rw[ih t]
      |dct xs=>
       obtain⟨b,_,eb,rfl,_⟩:=r;obtain⟨b2,_,eb2,rfl,_⟩:=r2;rw[eb]at eb2
       cases eb2;rw[ih t]
      |nst xss ds=>
       rw[zih r r2,ih t]
      |anc _ _=>rw[RepO.fp r r2,ih t]
      |ins _ _=>rw[RepO.fp r r2,ih t]
      |mix _=>rw[RepO.fp r r2,ih t]
      |tk _=>rw[RepO.fp r r2,ih t]
      |dcT _=>rw[RepO.fp r r2,ih t]
   induction h with
   |nil=>intro _ i e;simp at e
   |none t ih=>
    intro nd i e ev fp1 h1
    cases i with
    |zero=>simp at e
    |succ i=>cases h1 with|none t1=>exact ih nd (by simpa using e) (by simpa using ev) t1
   |val r t ih=>
    intro nd i e ev fp1 h1
    cases i with
    |zero=>simp at e
    |succ i=>cases h1 with|val _ t1=>exact ih nd (by simpa using e) (by simpa using ev) t1
   |vw r t ih=>
    intro nd i e ev fp1 h1
    cases i with
    |zero=>simp at e
    |succ i=>cases h1 with|vw _ t1=>exact ih nd (by simpa using e) (by simpa using ev) t1
   |vd r t ih=>
    intro nd i e ev fp1 h1
    cases i with
    |zero=>simp at e
    |succ i=>cases h1 with|vd _ t1=>exact ih nd (by simpa using e) (by simpa using ev) t1
   |exc r t ih=>
    intro nd i e ev fp1 h1
    cases i with
    |zero=>simp at e
    |succ i=>cases h1 with|exc _ t1=>exact ih nd (by simpa using e) (by simpa using ev) t1
   |scr r t ih=>
    intro nd i e ev fp1 h1
    cases i with
    |zero=>simp at e
    |succ i=>cases h1 with|scr _ t1=>exact ih nd (by simpa using e) (by simpa using ev) t1
   |pen r t ih=>
    intro nd i e ev fp1 h1
    cases i with
    |zero=>simp at e
    |succ i=>cases h1 with|pen _ t1=>exact ih nd (by simpa using e) (by simpa using ev) t1
   |tmp r t ih=>
    intro nd i e ev fp1 h1
    cases i with
    |zero=>simp at e
    |succ i=>cases h1 with|tmp _ t1=>exact ih nd (by simpa using e) (by simpa using ev) t1
   |@own o v f ws wvs fp' r t ih=>
    intro nd i e ev fp1 h1;rw[List.nodup_append]at nd
    cases i with
    |zero=>
     simp at e ev;subst e ev;obtain⟨b,_,eb,rfl,_⟩:=r
     cases eb
     cases h1 with
     |none t1=>
      rw[det t1 t];exact λz=>nd.2.2 _ (by simp) _ z rfl
    |succ i=>
     have e':ws[i]?=some (some (.own (.lst xs))):=by simpa using e
     have ev':wvs[i]?=some (some (.ref a)):=by simpa using ev
     cases h1 with
     |own r1 t1=>
      intro z;rcases List.mem_append.mp z with z|z
      ·obtain⟨v',e1,f',⟨b,zs,rfl,rfl,hb,rb⟩,m⟩:=t.get e';rw[ev']at e1
       cases e1
       cases o with
       |lst ys=>
        obtain⟨b1,_,eb1,rfl,_⟩:=r;obtain⟨b2,_,eb2,rfl,_⟩:=r1;rw[eb1]at eb2
        cases eb2;exact nd.2.2 a z a (m a (by simp)) rfl
       |dct ys=>
        obtain⟨b1,_,eb1,rfl,_⟩:=r;obtain⟨b2,_,eb2,rfl,_⟩:=r1;rw[eb1]at eb2
        cases eb2;exact nd.2.2 a z a (m a (by simp)) rfl
       |nst yss ds=>
        rw[<-zih r r1]at z;exact nd.2.2 a z a (m a (by simp)) rfl
       |anc _ _=>
        rw[<-RepO.fp r r1]at z;exact nd.2.2 a z a (m a (by simp)) rfl
       |ins _ _=>
        rw[<-RepO.fp r r1]at z;exact nd.2.2 a z a (m a (by simp)) rfl
       |mix _=>
        rw[<-RepO.fp r r1]at z;exact nd.2.2 a z a (m a (by simp)) rfl
       |tk _=>
        rw[<-RepO.fp r r1]at z;exact nd.2.2 a z a (m a (by simp)) rfl
       |dcT _=>
        rw[<-RepO.fp r r1]at z;exact nd.2.2 a z a (m a (by simp)) rfl
      ·exact ih nd.2.1 e' ev' t1 z
  exact key sl nd e e1 sl1 ha
 have sl2:Slots X.K H₀ (upd H a (.frz o (.lst vs))) (σD.set i none) σ fp1:=sl1.keep ps (λh=>h.frz e2) λb hb w hw=>by rw[zn (λz=>off (by rw[<-z];exact hb))];exact hw
 have fin:DOk X.K H₀ (upd H a (.frz o (.lst vs))) (σD.set i none) σ:=⟨sm,fp1,sl2,nd1,fr1⟩
 have:=fin.setV (d:=.list xs) (v:=.ref a) (.lst zp (r.mono ps)) i;rw[List.set_set,eσ]at this;exact this
def zs4(te:DTE):DTS:=λDn σ=>te σ λd=>Dn.rt (.val d)
def znj(tf:DTF):DTS:=λDn σ=>tf σ λxs=>Dn.rt (.new xs)
def zjt(i:Nat):DTS:=λDn σ=>match σ[i]? with
 |some (some (.own (.lst xs)))=>Dn.rt (.new xs)
 |_=>False
theorem z0(he:DE X e te):DS X (.Return (some e) pos) (zs4 te) :=
 DS.of (zco he.pe) λσ H H₀ σD Dn ok q=>⟨H₀,σD,_,ok,q,λv H1 d s1 r1 q1=>⟨.val d,ok.same.trans s1,r1,q1⟩⟩
theorem zju(he:DF X e tf):DS X (.Return (some e) pos) (znj tf) :=
 DS.of (zco he.pe) λσ H H₀ σD Dn ok q=>⟨H₀,σD,_,ok,q,λa H1 vs xs s1 n e r1 q1=>⟨.new xs,ok.same.trans s1,⟨a,vs,rfl,ok.same.free n,e,r1⟩,q1⟩⟩
theorem zcj(i:Nat){x:Str}{pos':Pos}(hN:X.N[i]?=some x:=by rfl)(hv:Vis X.env.scope x:=by first|exact Or.inl rfl|exact Or.inr (Or.inl rfl)|exact Or.inr (Or.inr rfl))(hd:(x ==("__debug__" : Str))=false:=by decide)
  (hcd:(x ==("__classdict__" : Str))=false:=by decide):DS X (.Return (some (.Name x pos')) pos) (zjt i) :=
 DS.of (zco (wc (i:=i) hN hv hd hcd)) λσ H H₀ σD Dn ok q=>by
  unfold zjt at q
  split at q
  ·next xs e=>
   obtain⟨a,vs,e1,e2,r,n⟩:=ok.ownL e;exact⟨.ref a,e1,.new xs,ok.same,⟨a,vs,rfl,n,e2,r⟩,q⟩
  ·exact q.elim
def znk(i:Nat)(te:DTE):DTS:=λDn σ=>te σ λd=>Dn.nx (σ.set i (some (.val d)))
def znl(i:Nat)(tf:DTF):DTS:=λDn σ=>tf σ λxs=>Dn.nx (σ.set i (some (.own (.lst xs))))
def znm(i:Nat)(tf:DTF):DTS:=λDn σ=>tf σ λxs=>(∃a b c:Int,xs = [.int a,.int b,.int c])/\Dn.nx (σ.set i (some .pen))
theorem yw{i:Nat}{x:Str}{pos':Pos}(hN:X.N.Nodup)(hi:X.N[i]?=some x)(hx:Loc X.env.scope x)(he:DE X e te)(hs:swapsWith e (some (.Name x pos')) pos.line X.env=pure false:=by rfl)(hf:X.fn x=true\/X.env.scope.names.lookup x=some .local:=by first|exact .inl rfl|exact .inr rfl|assumption):
  DS X (.Assign [.Name x pos'] e pos) (znk i te) :=
 DS.of (zbh hN hi hx he.pe hs hf) λσ H H₀ σD Dn ok q=>⟨H₀,σD,_,ok,q,λv H1 d s1 r1 q1=>⟨_,(ok.after s1).setV r1 i,s1.pers,q1⟩⟩
theorem kx{i:Nat}{x:Str}{pos':Pos}(hN:X.N.Nodup)(hi:X.N[i]?=some x)(hx:Loc X.env.scope x)(he:DF X e tf)(hs:swapsWith e (some (.Name x pos')) pos.line X.env=pure false:=by rfl)(hf:X.fn x=true\/X.env.scope.names.lookup x=some .local:=by first|exact .inl rfl|exact .inr rfl|assumption):
  DS X (.Assign [.Name x pos'] e pos) (znl i tf) :=
 DS.of (zbh hN hi hx he.pe hs hf) λσ H H₀ σD Dn ok q=>⟨H₀,σD,_,ok,q,λa H1 vs xs s1 n e r1 q1=>⟨_,ok.setO s1 n e r1 i,s1.pers,q1⟩⟩
theorem zpr{i:Nat}{x:Str}{pos':Pos}(hN:X.N.Nodup)(hi:X.N[i]?=some x)(hx:Loc X.env.scope x)(he:DF X e tf)(hs:swapsWith e (some (.Name x pos')) pos.line X.env=pure false:=by rfl)(hf:X.fn x=true\/X.env.scope.names.lookup x=some .local:=by first|exact .inl rfl|exact .inr rfl|assumption):
  DS X (.Assign [.Name x pos'] e pos) (znm i tf):=⟨λpins s σ H H₀ σD Dn I ok q=>by
 refine thn (zbh hN hi hx he.pe hs hf pins s σ H { nx:=λσ' H'=>∃a,Same H H'/\H a=none/\σ'=σ.set i (some (.ref a))/\(∃x y z:Int,H' a=some (.lst [.int x,.int y,.int z]))/\Dn.nx (σD.set i (some .pen)),rt:=λ_ _=>False } I ⟨H₀,σD,_,ok,q,λa H1 vs xs s1 n e r1 q1=>?_⟩) λf s' z=>?_
 ·obtain⟨⟨x,y,z,rfl⟩,q1⟩:=q1
  cases r1 with
  |cons r1 t=>cases t with
   |cons r2 t=>cases t with
    |cons r3 t=>
     cases t
     cases r1
     cases r2
     cases r3;exact⟨a,s1,n,rfl,⟨x,y,z,e⟩,q1⟩
 ·cases f with
  |next=>
   obtain⟨σ',H',I',a,sm,n,rfl,⟨x,y,z,e⟩,q⟩:=z;have sm2:Same H (upd H' a (zbi a)):=λb u hb=>by rw[zn (yj hb n)];exact sm b u hb
   exact⟨_,_,_,I'.toPen e,(ok.after sm2).put (.pen zp) i,sm2.pers,q⟩
  |ret u=>obtain⟨_,_,_,_,_,z⟩:=z;exact z.elim
  |brk=>obtain⟨_,_,_,z⟩:=z;exact z.elim
  |cont=>obtain⟨_,_,_,z⟩:=z;exact z.elim⟩
def zs5(te:DTE)(g:DTG):DTS:=λDn σ=>te σ λd=>g d σ Dn.nx
theorem zii{tg:Expr}{is:List Nat}{g:DTG}(he:DE X e te)(hg:DG X tg is g)(hs:swapsWithSole [tg] e pos.line X.env=pure false:=by rfl)(hw:swappedStores [tg] e X.env=pure none:=by rfl)
  (h1:(assignEach [tg] X.env).map (·.2) = [assign tg X.env]:=by rfl):DS X (.Assign [tg] e pos) (zs5 te g) :=
 DS.of (zhw he.pe hg.pg hs hw h1) λσ H H₀ σD Dn ok q=>⟨H₀,σD,_,ok,q,λv H1 d s1 r1 q1=>⟨H₀,σD,d,_,ok.after s1,r1,q1,λσ' σD' _ ok' _ q'=>⟨σD',ok',s1.pers,q'⟩⟩⟩
def zs6(i j:Nat)(t:DTF):DTS:=λDn σ=>t σ λds=>match ds with
 |[d,e]=>Dn.nx ((σ.set i (some (.val d))).set j (some (.val e)))
 |_=>False
theorem znn{i j:Nat}{x y:Str}{a b:Expr}{px py pt:Pos}{kt k2 pt2}(hc:X.calm=true)(hN:X.N.Nodup)(hi:X.N[i]?=some x)(hj:X.N[j]?=some y)(hij:i≠j)
  (hx:X.env.scope.names.lookup x=some .local) (hy:X.env.scope.names.lookup y=some .local) (ha:DA X [a,b] tf)
  (hw:swappedStores [.Tuple [.Name x px,.Name y py] kt pt] (.Tuple [a,b] k2 pt2) X.env=pure (some [x,y]))
  (hs:swapsWithSole [.Tuple [.Name x px,.Name y py] kt pt] (.Tuple [a,b] k2 pt2) pos.line X.env=pure false:=by rfl) :
  DS X (.Assign [.Tuple [.Name x px,.Name y py] kt pt] (.Tuple [a,b] k2 pt2) pos) (zs6 i j tf) :=
 DS.of (zmf hc hN hi hj hij hx hy ha.pa hw hs) λσ H H₀ σD Dn ok q=>⟨H₀,σD,_,ok,q,λvs H1 ds s1 r1 q1=>by
  match ds,r1,q1 with
  |[d,e],r1,q1=>
   cases r1 with
   |cons p1 t1=>cases t1 with
    |cons p2 t2=>
     cases t2;exact⟨_,_,rfl,_,((ok.after s1).setV p1 i).setV p2 j,s1.pers,q1⟩⟩
def zno(i j k:Nat)(t:DTF):DTS:=λDn σ=>t σ λds=>match ds with
 |[d,e,f]=>Dn.nx (((σ.set i (some (.val d))).set j (some (.val e))).set k (some (.val f)))
 |_=>False
theorem zps{i j k:Nat}{x y z:Str}{a b c:Expr}{px py pz pt:Pos}{kt k2 pt2}(hc:X.calm=true)(hN:X.N.Nodup)(hi:X.N[i]?=some x)(hj:X.N[j]?=some y)(hk:X.N[k]?=some z)(hij:i≠j)(hik:i≠k)(hjk:j≠k)
  (hx:X.env.scope.names.lookup x=some .local) (hy:X.env.scope.names.lookup y=some .local) (hz:X.env.scope.names.lookup z=some .local) (ha:DA X [a,b,c] tf)
  (hw:swappedStores [.Tuple [.Name x px,.Name y py,.Name z pz] kt pt] (.Tuple [a,b,c] k2 pt2) X.env=pure (some [x,y,z]))
  (hs:swapsWithSole [.Tuple [.Name x px,.Name y py,.Name z pz] kt pt] (.Tuple [a,b,c] k2 pt2) pos.line X.env=pure false:=by rfl) :
  DS X (.Assign [.Tuple [.Name x px,.Name y py,.Name z pz] kt pt] (.Tuple [a,b,c] k2 pt2) pos) (zno i j k tf) :=
 DS.of (zpe hc hN hi hj hk hij hik hjk hx hy hz ha.pa hw hs) λσ H H₀ σD Dn ok q=>⟨H₀,σD,_,ok,q,λvs H1 ds s1 r1 q1=>by
  match ds,r1,q1 with
  |[d,e,f],r1,q1=>
   cases r1 with
   |cons p1 t1=>cases t1 with
    |cons p2 t2=>cases t2 with
     |cons p3 t3=>
      cases t3;exact⟨_,_,_,rfl,_,(((ok.after s1).setV p1 i).setV p2 j).setV p3 k,s1.pers,q1⟩⟩
def dIf(c:DTT)(t u:DTS):DTS:=λDn σ=>c σ λb=>if b=true then t Dn σ else u Dn σ
theorem xq{c:Expr}{a b:List Stmt}{tc:DTT}(hc:DT X c tc)(ha:DSs X a t)(hb:DSs X b u):DS X (.If c a b pos) (dIf tc t u):=⟨λpins s σ H H₀ σD Dn I ok q=>by
 refine wpAny_If (thn (hc.run pins s σ H H₀ σD _ I ok q) λd s1 zr3=>?_);obtain⟨H1,I1,sm,q1⟩:=zr3
 cases d with
 |true=>exact thn (ha.run pins s1 σ H1 H₀ σD Dn I1 (ok.after sm) (by simpa using q1)) λ_ _ z=>z.back sm.pers
 |false=>exact thn (hb.run pins s1 σ H1 H₀ σD Dn I1 (ok.after sm) (by simpa using q1)) λ_ _ z=>z.back sm.pers⟩
def znp(c:DTT)(tb:DTS):DTS:=λDn σ=>∃Wv:Nat->DSt->Prop,(∃m,Wv m σ)/\∀m σ,Wv m σ->c σ λb=>if b=true then tb { Dn with nx:=λσ'=>∃m',m' < m/\Wv m' σ',ct:=λσ'=>∃m',m' < m/\Wv m' σ',bk:=Dn.nx } σ else Dn.nx σ
theorem zg2{c:Expr}{body:List Stmt}{tc:DTT}{tb:DTS}(hp:PassesOwn (model X.prog X.w) X.A X.env X.xe)(hc:DT X c tc)(hb:DSs X body tb):DS X (.While c body [] pos) (znp tc tb) :=
 DS.of (zmg hp hc.pt hb.ps) λσ H H₀ σD Dn ok q=>by
  obtain⟨Wv,⟨m0,w0⟩,turn⟩:=q;refine⟨λm σ' H'=>∃σD',DOk X.K H₀ H' σD' σ'/\Pers H H'/\Wv m σD',⟨m0,σD,ok,Pers.refl _,w0⟩,?_⟩;rintro m σ' H' ⟨σD',ok',p',w'⟩;refine⟨H₀,σD',_,ok',turn m σD' w',λb H1 s1 q1=>?_⟩
  cases b with
  |true=>
   rw[if_pos rfl]at q1 ⊢;refine⟨λσ2 H2=>∃σD2,DOk X.K H₀ H2 σD2 σ2/\Pers H H2/\∃m',m' < m/\Wv m' σD2,λσ2 H2 zq95=>by obtain⟨σD2,ok2,p2,m',hm,w2⟩:=zq95;exact⟨m',hm,σD2,ok2,p2,w2⟩,H₀,σD',_,ok'.after s1,q1,λσ2 H2 σD2 ok2 p2 n2=>⟨σD2,ok2,(p'.trans s1.pers).trans p2,n2⟩,λv H2 r sm rp qr=>⟨r,sm,rp,qr⟩,λσ2 H2 σD2 ok2 p2 n2=>⟨σD2,ok2,(p'.trans s1.pers).trans p2,n2⟩,λσ2 H2 σD2 ok2 p2 n2=>⟨σD2,ok2,(p'.trans s1.pers).trans p2,n2⟩⟩
  |false=>
   rw[if_neg Bool.false_ne_true]at q1 ⊢;exact⟨σD',ok'.after s1,p'.trans s1.pers,q1⟩
theorem zer{c:DTT}{tb:DTS}{Dn:vy}{σ:DSt}(Wv:Nat->DSt->Prop)(m0:Nat)(h0:Wv m0 σ)
  (hs:∀m σ (N:DSt->Prop),Wv m σ->(∀m' σ',m' < m->Wv m' σ'->N σ')->c σ λb=>if b=true then tb { Dn with nx:=N,ct:=N,bk:=Dn.nx } σ else Dn.nx σ):znp c tb Dn σ :=
 ⟨Wv,⟨m0,h0⟩,λm σ w=>hs m σ _ w λm' σ' h w'=>⟨m',h,w'⟩⟩
def zdz(g:DTG)(tb:DTS)(Dn:vy):List D->DSt->Prop
 |[],σ=>Dn.nx σ
 |d::ds,σ=>g d σ λσ2=>tb { Dn with nx:=zdz g tb Dn ds,ct:=zdz g tb Dn ds,bk:=Dn.nx } σ2
theorem wg{g:DTG}{tb:DTS}{Dn:vy}(Iv:List D->DSt->Prop)(hs:∀d ds σ (N:DSt->Prop),Iv (d::ds) σ->(∀σ',Iv ds σ'->N σ')->g d σ λσ2=>tb { Dn with nx:=N,ct:=N,bk:=Dn.nx } σ2)(hd:∀σ,Iv [] σ->Dn.nx σ):∀{ds:List D}{σ:DSt},Iv ds σ->zdz g tb Dn ds σ
 |[],σ,h=>hd σ h
 |d::ds,σ,h=>hs d ds σ _ h λσ' h'=>wg Iv hs hd h'
def zs7(ti:DTF)(g:DTG)(tb:DTS):DTS:=λDn σ=>ti σ λds=>zdz g tb Dn ds σ
theorem qx{tg iter:Expr}{body:List Stmt}{ti:DTF}{is:List Nat}{g:DTG}{tb:DTS}(hp:PassesOwn (model X.prog X.w) X.A X.env X.xe)(hc:X.calm=true)(hi:DI X tg iter ti)(hg:DG X tg is g)(hb:DSs X body tb)
  (hs:∀x,foldedSetIterable iter X.env x=pure x:=by intro _;rfl):DS X (.For tg iter body [] pos) (zs7 ti g tb) :=
 DS.of (zrm hp hc hi.pi hg.pg hb.ps hs) λσ H H₀ σD Dn ok q=>⟨H₀,σD,_,ok,q,λJ H1 ds s1 it q1=>by
  have sub:∀{i:Nat}{d:D}{σ':DSt},ds[i]?=some d->zdz g tb Dn (ds.drop i) σ'=g d σ' (λσ2=>tb { Dn with nx:=zdz g tb Dn (ds.drop (i+1)),ct:=zdz g tb Dn (ds.drop (i+1)),bk:=Dn.nx } σ2):=λ{i d σ'} e=>by
   obtain⟨hi,e'⟩:=List.getElem?_eq_some_iff.mp e;rw[List.drop_eq_getElem_cons hi,e'];rfl
  refine⟨λi m σ' H'=>m=ds.length-i/\i<=ds.length/\Pers H1 H'/\∃σD',DOk X.K H₀ H' σD' σ'/\zdz g tb Dn (ds.drop i) σD',⟨ds.length,rfl,Nat.zero_le _,Pers.refl _,σD,ok.after s1,q1⟩,?_⟩;rintro i m σ' H' ⟨rfl,hi,pr,σD',ok',q'⟩
  by_cases hlt:i<ds.length
  ·have e:ds[i]?=some ds[i]:=by simp[hlt]
   obtain⟨go,yl⟩:=it.go H' i ds[i] pr e;rw[sub e]at q';refine .inr ⟨go,λσ2 H2=>Pers H1 H2/\∃σD2,DOk X.K H₀ H2 σD2 σ2/\zdz g tb Dn (ds.drop (i+1)) σD2,λσ2 H2 zq18=>by obtain⟨p2,σD2,ok2,q2⟩:=zq18;exact⟨ds.length-(i+1),by omega,rfl,hlt,p2,σD2,ok2,q2⟩,λx H2 y=>?_⟩;obtain⟨s2,r2⟩:=yl x H2 y;have p2:=pr.trans s2.pers;refine⟨H₀,σD',ds[i],_,ok'.after s2,r2,q',λσ3 σD3 _ ok3 _ q3=>?_⟩;exact⟨H₀,σD3,_,ok3,q3,λσ4 H4 σD4 ok4 p4 q4=>⟨p2.trans p4,σD4,ok4,q4⟩,λv H4 r sm rp qr=>⟨r,sm,rp,qr⟩,λσ4 H4 σD4 ok4 p4 q4=>⟨σD4,ok4,(s1.pers.trans p2).trans p4,q4⟩,λσ4 H4 σD4 ok4 p4 q4=>⟨p2.trans p4,σD4,ok4,q4⟩⟩
  ·have e:i=ds.length:=by omega
   subst e;rw[List.drop_length]at q';exact .inl ⟨it.stop H' pr,σD',ok',s1.pers.trans pr,q'⟩⟩
variable {ta tb:DTE}
def zpt(i:Nat)(te:DTE):DTS:=λDn σ=>match σ[i]? with
 |some (some (.own (.lst xs)))=>te σ λd=>xs.length<sizeLine/\Dn.nx (clr (σ.set i (some (.own (.lst (xs ++ [d]))))))
 |_=>False
theorem vg(i:Nat){x:Str}{p1 apos cpos:Pos}(he:DE X e te)(hN:X.N[i]?=some x:=by rfl)(hv:Vis X.env.scope x:=by first|exact Or.inl rfl|exact Or.inr (Or.inl rfl)|exact Or.inr (Or.inr rfl))(hd:(x ==("__debug__" : Str))=false:=by decide)
  (hcd:(x ==("__classdict__" : Str))=false:=by decide)
  (hbase:attributeBase (.Name x p1) "append" X.env (eval (.Name x p1) X.env)=eval (.Name x p1) X.env:=by rfl)
  (hfew:((backTo cpos (starEach (e :: []) X.env)).all (λx=>!x.1) && (backToKw cpos (keywordEach [] X.env)).all (λx=>x.1.isSome)
   && decide ((e :: []).length+([]:List Keyword).length+(if ([]:List Keyword).isEmpty then 0 else 1)<30))=true:=by rfl)
  (hline:(apos.endLine == cpos.line)=true:=by rfl) (hst:starEach (e :: []) X.env=(false,eval e X.env)::starEach [] X.env:=by rfl) (hplain:(backTo cpos (starEach [] X.env)).any (·.1)=false:=by rfl)
  (hs:swapsWith (.Call (.Attribute (.Name x p1) "append" apos) [e] [] cpos) none pos.line X.env=pure false:=by rfl):DS X (.Expr (.Call (.Attribute (.Name x p1) "append" apos) [e] [] cpos) pos) (zpt i te) :=
 DS.of (zjb (zgp PySem.F.plainAttrs_list PySem.F.slot_list_append PySem.F.type_list_append jz (wc (i:=i) hN hv hd hcd) (xz he.pe vf hst) hbase hfew hline hst hplain) hs) λσ H H₀ σD Dn ok q=>by
  unfold zpt at q
  split at q
  ·next xs eo=>
   obtain⟨a,vs,e1,e2,r,n⟩:=ok.ownL eo;refine⟨.ref a,e1,.inl ⟨rfl,vs,SqL.of e2⟩,H₀,σD,_,ok,q,λv H1 d s1 r1 q1=>?_⟩;refine⟨a,vs,v,rfl,rfl,s1 _ _ e2,by rw[<-r.length];exact q1.1,_,(ok.after s1).write eo e1 (s1 _ _ e2) ((r.same s1).append (.cons r1 .nil)),s1.pers.trans (wz (s1 _ _ e2) rfl),q1.2⟩
  ·exact q.elim
end
def zbl(N:List Str)(ws:List W):DSt:=ws.map some++List.replicate (N.length-ws.length) none
section
variable {P:Program}{w:World}{K:PySem.W.Frag}{mg:Str->Option Value}{base:Heap}
theorem DOk.begin{H:Hp}{ws:List W}{vs:List V}(r:RepWs K H ws vs)(N:List Str):DOk K H H (zbl N ws) (j7 N vs):=by
 refine⟨Same.refl _,[],?_,List.nodup_nil,λa ha=>by cases ha⟩;unfold zbl j7;rw[<-r.length];generalize N.length-ws.length=n;have rep:∀n:Nat,Slots K H H (List.replicate n none) (List.replicate n none) []:=λn=>by
  induction n with
  |zero=>exact .nil
  |succ n ih=>exact .none ih
 induction r with
 |nil=>exact rep n
 |@cons w' v ws vs r t ih=>
  cases w' with
  |val d=>exact .val r ih
  |vw xs=>exact .vw r ih
  |vd xs=>exact .vd r ih
  |exc xs=>exact .exc r ih
  |scr ns=>obtain⟨a,rfl,r⟩:=r;exact .scr r ih
  |pen=>obtain⟨a,rfl,r⟩:=r;exact .pen r ih
  |tmp d=>exact r.elim
  |own o=>exact r.elim
theorem Fun.dok{x qual:Str}{st:Stmt}{f:Addr}{fd:FuncData}{N ps:List Str}{k:Nat}{sp:DSp}(F:Fun K x qual st f fd)(S:z9 N ps (za st))(len:∀ws Q,sp ws Q->ws.length=ps.length)
  (hbody:∀(cdv:Value) (A:Around) (outer:List Env) (s:Shared) (H:Hp) (ws:List W) (Q:Ret->Prop) (E:XK),Room k (A.deeper (envOfC qual (za st) s.heap.objs.size f cdv))->sp ws Q ->
   ∃t,DSs (zgk CX0 P w K mg base N qual (za st) f cdv A outer s H E).nox (zd st) t/\t { nx:=λ_=>Q (.val .none),rt:=Q } (zbl N ws)):FnOk P w K mg base CX0 (k+1) f fd ps (yc K sp):=by
 refine F.ok S (λvs H Q E h=>?_) λcdv A outer s H vs Q E hr h=>?_
 ·obtain⟨ws,QD,r,q,_⟩:=h;rw[<-r.length];exact len ws QD q
 ·obtain⟨ws,QD,r,q,kk⟩:=h;obtain⟨t,ht,hq⟩:=hbody cdv A outer s H ws QD E hr q;refine⟨_,ht.ps,H,_,_,DOk.begin r N,hq,λσ' H' σD' ok' p' q'=>kk .non H' (.val .none) ok'.same .non q',λv H' r' sm rp qr=>kk v H' r' sm rp qr,λ_ _ _ _ _ z=>z.elim,λ_ _ _ _ _ z=>z.elim⟩
end
def znq:Sp:=λvs H Q _=>∃(p:Addr) (m:Int),vs = [.ref p,.int m]/\0<m/\m<10000000000000000000000000000000000000000000000000000000000000/\Pen H p/\∀(v:Int) H',0<=v->v<m->Pen H' p->But p H H'->Q (.int v) H'
def x4:DSp:=λws Q=>∃m:Int,ws = [.pen,.val (.int m)]/\0<m/\m<10000000000000000000000000000000000000000000000000000000000000/\∀v:Int,0<=v->v<m->Q (.val (.int v))
theorem zs8{P:Program}{w:World}{K:PySem.W.Frag}{mg:Str->Option Value}{base:Heap}{k:Nat}{f:Addr}{fd:FuncData}{ps:List Str}(F:FnOk P w K mg base CX0 k f fd ps znq):FnOk P w K mg base CX0 k f fd ps (yc K x4):=by
 refine⟨λvs H Q E h=>?_,λA outer s H args us vs Q E hr e0 hb hv hs=>?_⟩
 ·obtain⟨ws,QD,rw',⟨m,rfl,hm,hM,q⟩,kk⟩:=h
  cases rw' with
  |cons r1 t=>cases t with
   |cons r2 t=>
    cases t;obtain⟨p,rfl,hp⟩:=r1;have r2:Rep K H (.int m) _:=r2
    cases r2;exact F.len [.ref p,.int m] (upd H p (.lst [.int 0,.int 0,.int 0])) (λ_ _=>True) E ⟨p,m,rfl,hm,hM,⟨0,0,0,zp⟩,λ_ _ _ _ _ _=>trivial⟩
 ·obtain⟨ws,QD,rw',⟨m,rfl,hm,hM,q⟩,kk⟩:=hs
  cases rw' with
  |cons r1 t=>cases t with
   |cons r2 t=>
    cases t;obtain⟨p,rfl,hp⟩:=r1;have r2:Rep K H (.int m) _:=r2
    cases r2;obtain⟨⟨x,y,z,tx,ty,tz,n,e⟩,_,_⟩:=e0.hok p _ hp;have mu:Mut (H p):=by rw[hp];exact trivial
    have hok1:HOk P w (upd H p (.lst [.int x,.int y,.int z])) s.heap:=e0.hok.write (h':=s.heap) mu (.inl rfl) (λb u _ q=>q) ⟨_,e⟩ ⟨by show 3<=sizeLine;decide,[_,_,_],n,.cons ⟨_,rfl⟩ (.cons ⟨_,rfl⟩ (.cons ⟨_,rfl⟩ .nil)),e⟩;have nn:∀b,H b=none->b≠p:=λb h z=>by rw[z,hp]at h;cases h
    have e1:Env0 P w K mg base A outer s (upd H p (.lst [.int x,.int y,.int z])):=⟨e0.frames,e0.mod,λb o h=>⟨(e0.bs b o h).1,by rw[zn (nn b (e0.bs b o h).2)];exact(e0.bs b o h).2⟩,e0.bsz,e0.funs,λb hb=>by rw[zn (nn b (e0.frf b hb))];exact e0.frf b hb,hok1,e0.bare⟩
    refine codeAny_mono (F.run A outer s _ args us [.ref p,.int m] (λv H'=>∃i,v=.int i/\0<=i/\i<m/\Pen H' p/\But p (upd H p (.lst [.int x,.int y,.int z])) H') E hr e1 hb hv ⟨p,m,rfl,hm,hM,⟨x,y,z,zp⟩,λv H' h1 h2 h3 h4=>⟨v,rfl,h1,h2,h3,h4⟩⟩) λr s' z=>?_
    cases r with
    |error e=>exact z
    |ok fl=>
     cases fl with
     |ret u=>
      obtain⟨v,H',os,bare,un,hok',rv,i,rfl,h1,h2,⟨a',b',c',hp'⟩,bt⟩:=z;obtain⟨zz,its,n',r',e'⟩:=hok' p _ hp';have pk:∃(x y z:Int) (tx ty tz:Tok),its = [.int x tx,.int y ty,.int z tz]:=by
       cases r' with
       |cons r1 r=>cases r with
        |cons r2 r=>cases r with
         |cons r3 r=>
          cases r;obtain⟨t1,rfl⟩:=r1;obtain⟨t2,rfl⟩:=r2;obtain⟨t3,rfl⟩:=r3;exact⟨_,_,_,_,_,_,rfl⟩
      obtain⟨x',y',z',tx',ty',tz',rfl⟩:=pk;have np:∀{b:Addr}{u:HO},H b=some u->u≠zbi p->b≠p:=λ{b u} h n z=>by rw[z,hp]at h;cases h;exact n rfl
      have hpen:∀{b:Addr},b≠p->upd H' p (zbi p) b=H' b:=λh=>zn h;refine⟨.int i,upd H' p (zbi p),os,bare,⟨λb o h n'=>un.keep b o h (by rw[zn (nn b n')];exact n'),λb o h n'=>un.slot b o h (by rw[zn (nn b n')];exact n'),λb o h n' hx=>?_,un.there,λb xs h=>?_,λb o u h=>?_,λb ps h=>?_⟩,?_,rv,kk (.int i) _ (.val (.int i)) (λb o h=>?_) (show Rep K _ (.int i) (.int i) from .int) (q i h1 h2)⟩
      ·rw[hpen (nn b n')];exact un.free b o h (by rw[zn (nn b n')];exact n') hx
      ·have nb:=np h (by unfold zbi;intro z;cases z);rw[hpen nb];exact un.tups b xs (by rw[zn nb];exact h)
      ·have nb:=np h (by unfold zbi;intro z;cases z);rw[hpen nb];exact un.frzs b o u (by rw[zn nb];exact h)
      ·have nb:=np h (by unfold zbi;intro z;cases z);obtain⟨more,e2⟩:=un.tbls b ps (by rw[zn nb];exact h);exact⟨more,by rw[hpen nb];exact e2⟩
      ·exact hok'.write (h':=s'.heap) (by rw[hp'];exact trivial) (.inl rfl) (λb u _ q=>q) ⟨_,e'⟩ (zjj e')
      ·by_cases hb:b=p
       ·subst hb;rw[hp]at h
        cases h;exact zp
       ·rw[zn hb];exact bt b o hb (by rw[zn hb];exact h)
     |next=>exact z
     |brk=>exact z
     |cont=>exact z
section
variable {prog:Program}{w:World}{A:Around}{E:Value->Shared->Prop}{s:Shared}
theorem zes{it t:Addr}{items:Array Value}(hne:t≠it):∀(n i:Nat) (s:Shared) (Q:List Value->Shared->Prop),s.heap.IsListIter it t i->s.heap.IsList t items->i+n<=items.size ->
  (∀h',h'.IsListIter it t (i+n)->Heap.SameBut it s.heap h'->Q ((items.toList.drop i).take n) { s with heap:=h' })->wpAny (model prog w) A (draw (.ref it) n) Q E s
 |0,i,s,Q,hit,_,_,hQ=>by
  show wpAny _ _ (pure []) Q E s;exact wpAny_pure (by simpa using hQ s.heap hit (Heap.SameBut.refl ..))
 |n+1,i,s,Q,hit,ht,hle,hQ=>by
  have hlt:i<items.size:=by omega
  show wpAny _ _ (pyNext (.ref it) >>= _) Q E s;refine wpAny_bind (wpAny_pyNext_list_item hit ht (x:=items[i]) (by simp[hlt]) λh₁ hit₁ hs₁=>?_);have ht1:h₁.IsList t items:=by obtain⟨o,e,r⟩:=ht;exact⟨o,(hs₁.2 t hne).trans e,r⟩
  refine wpAny_bind (wpAny_holding (zes hne n (i+1) _ _ hit₁ ht1 (by omega) λh₂ hit₂ hs₂=>wpAny_pure ?_));have hd:items.toList.drop i=items[i]::items.toList.drop (i+1):=by simp[List.drop_eq_getElem_cons,hlt]
  have:=hQ h₂ (by rw[show i+(n+1)=i+1+n by omega];exact hit₂) (hs₁.trans hs₂);rw[hd,List.take_succ_cons]at this;exact this
theorem zbm{t:Addr}{items:Array Value}{Q:List Value->Shared->Prop}(hh:A.handled=none)(ht:s.heap.IsList t items)
  (hQ:∀h',Heap.ExtBut s.heap.objs.size s.heap h'->Q items.toList { s with heap:=h' }):wpAny (model prog w) A (unpackItems (.ref t) items.size none) Q E s:=by
 have hlt:t≠s.heap.objs.size:=by obtain⟨o,ho,_⟩:=ht;exact Nat.ne_of_lt (Heap.lt_size ho)
 have push:∀o:Obj,(s.heap.push o).IsList t items:=λo=>by obtain⟨o',e,r⟩:=ht;exact⟨o',Heap.get?_push_of_some _ e,r⟩
 unfold unpackItems;refine wpAny_bind ?_
 ·unfold notIterableAtAll;refine wpAny_bind (wpAny_specialOf ht.typeIs slot_list_iter.lookup ?_);refine wpAny_pure ?_;simp only[Bool.false_eq_true,if_false];refine wpAny_bind (wpAny_holding (wpAny_pyIter_list ht ?_));refine wpAny_bind (wpAny_holding (zes hlt items.size 0 _ _ ⟨_,Heap.get?_push_size _ rfl,rfl,rfl⟩ (push _) (by omega) λh₁ hit₁ hs₁=>?_))
  have hall:List.take items.size (List.drop 0 items.toList)=items.toList:=by
   rw[List.drop_zero];exact List.take_of_length_le (by simp)
  rw[hall];rw[if_neg (by simp)];have ht₁:h₁.IsList t items:=by obtain⟨o',e,r⟩:=push { cls:=.type "list_iterator",data:=.fields #[.ref t,.int 0 0] };exact⟨o',(hs₁.2 t hlt).trans e,r⟩
  refine wpAny_bind (wpAny_holding (wpAny_pyNext_list_end hh hit₁ ht₁ (by simp) λh₂ he₂=>?_));simp only[Option.isSome_none,Bool.false_eq_true,if_false];refine wpAny_pure (hQ h₂ λb o hb e=>he₂ b o hb (hs₁.extBut b o hb (Heap.get?_push_of_some _ e)))
theorem za3{env:Env}{elts:List Expr}{x1}{pos:Pos}{t:Addr}{items:Array Value}{Q:Unit->Shared->Prop}(hh:A.handled=none)(ht:s.heap.IsList t items)
  (hn:(assignEach elts env).length=items.size) (hstar:(assignEach elts env).findIdx? (·.1)=none)
  (h:∀h',Heap.ExtBut s.heap.objs.size s.heap h'->wpAny (model prog w) A (assignInOrder ((assignEach elts env).map (·.2)) items.toList) Q E { s with heap:=h' }) :
  wpAny (model prog w) A (assign (.Tuple elts x1 pos) env (.ref t)) Q E s:=by
 rw[assign_Tuple];refine wpAny_bind (wpAny_standAt ?_);unfold unpack;rw[hn,hstar];exact wpAny_bind (wpAny_holding (zbm hh ht h))
end
section
variable {X:Cx}{tg iter e:Expr}{es:List Expr}{te:DTE}{tf:DTF}{p pos:Pos}
def znr(n:Nat)(gs:zfo):DTG:=λd σ Q=>match d with
 |.tuple xs=>xs.length=n/\gs xs σ Q
 |.list xs=>xs.length=n/\gs xs σ Q
 |_=>False
theorem xn{k:Nat}{is:List Nat}{gs:zfo}{n:Nat}(hc:X.calm=true)(h:DGs X es is gs)(hn:(assignEach es X.env).length=n:=by rfl)(hst:(assignEach es X.env).findIdx? (·.1)=none:=by rfl):DG X (.Tuple es k pos) is (znr n gs):=⟨λpins s σ H H₀ σD v u d Q I ok r rp q=>by
 cases d with
 |tuple xs=>exact(zs3 (k:=k) (pos:=pos) hc h hn hst).run pins s σ H H₀ σD v u _ Q I ok r rp q
 |list xs=>
  obtain⟨hl,q⟩:=q
  cases rp with
  |lst hq rr=>
   cases r;obtain⟨its,rv,ht,hz⟩:=I.list (.inl (.inr ⟨_,hq⟩));refine za3 (I.ok.hd hc) ht.isList (by simp[hn,<-hl,<-rv.length,rr.length]) hst λh' hx=>?_;have I1:Inv X pins σ H { s with heap:=h' }:=I.kept (t':=s.toks) λb o e=>hx b o (Nat.ne_of_lt (Heap.lt_size e)) e;exact h.run pins _ σ H H₀ σD _ _ xs Q I1 ok (by simpa using rv) rr q
 |_=>exact q.elim⟩
variable {elt:Expr}{ifs:List Expr}{scope:Scope}{cl:List (Str×Addr)}{N' capt:List Str}{k:Nat}{js is:List Nat}{ti:DTF}{g:DTG}{tt:DTT}
theorem zlb{i:Nat}{x:Str}{pos' spos:Pos}(hN:X.N.Nodup)(hi':X.N[i]?=some x)(hx:Loc X.env.scope x)(hc:X.calm=true)(L:zdx X scope cl N' capt k js)
  (hi:DIw X tg iter ti) (hg:∀C fp s2 H2,DG (yk X N' scope cl C fp s2 H2) tg is g) (ht:∀C fp s2 H2,DTs (yk X N' scope cl C fp s2 H2) ifs tt) (he:∀C fp s2 H2,DE (yk X N' scope cl C fp s2 H2) elt te)
  (his:∀j∈is,j<k) (hsw:swapsWith (.ListComp elt [⟨tg,iter,ifs,0⟩] scope pos) (some (.Name x pos')) spos.line X.env=pure true) (hs:∀x,foldedSetIterable iter X.env x=pure x) (hf:X.fn x=true\/X.env.scope.names.lookup x=some .local)
  {pins:List (Addr×Obj)}{s:Shared}{σ:St}{H H₀:Hp}{σD:DSt}{Q:List D->Prop} (I:Inv X pins σ H s) (ok:DOk X.K H₀ H σD σ) (q:dLC k js ti g tt te σD Q) :
  wpAny (model X.prog X.w) X.A (exec (.Assign [.Name x pos'] (.ListComp elt [⟨tg,iter,ifs,0⟩] scope pos) spos) X.env) (λf s'=>f=.next/\∃a H' vs xs,Inv X pins (σ.set i (some (.ref a))) H' s'/\Same H H'/\H a=none/\H' a=some (.lst vs)/\Reps X.K H' xs vs/\Q xs) X.xe s:=by
 refine thn (zms (wi:=cnI X.K Same ti) (g:=cnG X.K is g) (tt:=cnT X.K tt) (te:=cnE X.K te) hN hi' hx hc L hi.pi (λC fp s2 H2=>(hg C fp s2 H2).pg) (λC fp s2 H2=>(ht C fp s2 H2).pts) (λC fp s2 H2=>(he C fp s2 H2).pe) hsw hs hf pins s σ H
  { nx:=λσ' H'=>∃a vs xs,σ'=σ.set i (some (.ref a))/\Same H H'/\H a=none/\H' a=some (.lst vs)/\Reps X.K H' xs vs/\Q xs,rt:=λ_ _=>False } I ?_) λf s' z=>?_
 ·refine⟨H₀,σD,_,ok,q,λJ H1 ds s1 it q1 Dd hn=>?_⟩
  have z:=zgz (k:=k) (js:=js) (is:=is) (gL:=cnG X.K is g) (Dd:=Dd) (ok.after s1) it q1.1 (λd v σ' H' Q σ0 ok0 r0 q0=>⟨H1,σ0,d,Q,ok0,r0,q0,λσ2 σD2 l2 ok2 f2 q2=>⟨rfl,l2,f2,σD2,ok2,q2⟩⟩)
   (λv σ' H' Q Q' m zq7=>by obtain⟨a,b,c,d,e1,e2,e3,e4⟩:=zq7;exact⟨a,b,c,d,e1,e2,e3,λσ2 σD2 l o f q=>m _ _ (e4 σ2 σD2 l o f q)⟩) his hn q1.2
  obtain⟨W,w0,turn⟩:=z;refine⟨W,w0,λi m σ' H' w=>?_⟩;rcases turn i m σ' H' w with⟨st,aa,vs,xs,e,sm,n,e2,r,qd⟩|h
  ·exact .inl ⟨st,aa,vs,xs,by rw[e],s1.trans sm,s1.free n,e2,r,qd⟩
  ·exact .inr h
 ·cases f with
  |next=>obtain⟨σ',H',I',a,vs,xs,rfl,sm,n,e,r,q⟩:=z;exact⟨rfl,a,H',vs,xs,I',sm,n,e,r,q⟩
  |ret u=>obtain⟨_,_,_,_,_,z⟩:=z;exact z.elim
  |brk=>obtain⟨_,_,_,z⟩:=z;exact z.elim
  |cont=>obtain⟨_,_,_,z⟩:=z;exact z.elim
theorem zg3{i:Nat}{x:Str}{pos' spos:Pos}(hN:X.N.Nodup)(hi':X.N[i]?=some x)(hx:Loc X.env.scope x)(hc:X.calm=true)(L:zdx X scope cl N' capt k js)
  (hi:DIw X tg iter ti) (hg:∀C fp s2 H2,DG (yk X N' scope cl C fp s2 H2) tg is g) (ht:∀C fp s2 H2,DTs (yk X N' scope cl C fp s2 H2) ifs tt) (he:∀C fp s2 H2,DE (yk X N' scope cl C fp s2 H2) elt te)
  (his:∀j∈is,j<k:=by decide) (hsw:swapsWith (.ListComp elt [⟨tg,iter,ifs,0⟩] scope pos) (some (.Name x pos')) spos.line X.env=pure true:=by rfl) (hs:∀x,foldedSetIterable iter X.env x=pure x:=by intro _;rfl) (hf:X.fn x=true\/X.env.scope.names.lookup x=some .local:=by first|exact .inl rfl|exact .inr rfl|assumption) :
  DS X (.Assign [.Name x pos'] (.ListComp elt [⟨tg,iter,ifs,0⟩] scope pos) spos) (znk i (dFz (dLC k js ti g tt te))):=⟨λpins s σ H H₀ σD Dn I ok q=>by
 refine thn (zlb hN hi' hx hc L hi hg ht he his hsw hs hf I ok q) λf s' zr83=>?_;obtain⟨ef,a,H',vs,xs,I',sm,n,e,r,qd⟩:=zr83;subst ef;obtain⟨H'',J,sm',r'⟩:=zal I' sm n e r;exact⟨_,H'',_,J,(ok.after sm').setV r' i,sm'.pers,qd⟩⟩
inductive RepRs(K:PySem.W.Frag):Hp->Hp->List Ret->List V->Prop
 |nil {H H':Hp} (s:Same H H'):RepRs K H H' [] []
 |val {H H1 H':Hp}{d:D}{v:V}{rs:List Ret}{vs:List V} (s:Same H H1) (r:Rep K H1 d v) (t:RepRs K H1 H' rs vs):RepRs K H H' (.val d::rs) (v::vs)
 |new {H H1 H':Hp}{xs:List D}{a:Addr}{ws:List V}{rs:List Ret}{vs:List V} (s:Same H H1) (n:H a=none) (e:H1 a=some (.lst ws)) (r:Reps K H1 xs ws) (t:RepRs K H1 H' rs vs):RepRs K H H' (.new xs::rs) (.ref a::vs)
theorem RepRs.same{K:PySem.W.Frag}{H H':Hp}{rs:List Ret}{vs:List V}(h:RepRs K H H' rs vs):Same H H':=by
 induction h with
 |nil s=>exact s
 |val s _ _ ih=>exact s.trans ih
 |new s _ _ _ _ ih=>exact s.trans ih
theorem RepRs.more{K:PySem.W.Frag}{H H':Hp}{rs:List Ret}{vs:List V}(h:RepRs K H H' rs vs){H2:Hp}(s2:Same H' H2):RepRs K H H2 rs vs:=by
 induction h with
 |nil s=>exact .nil (s.trans s2)
 |val s r _ ih=>exact .val s r (ih s2)
 |new s n e r _ ih=>exact .new s n e r (ih s2)
theorem RepRs.length{K:PySem.W.Frag}{H H':Hp}{rs:List Ret}{vs:List V}(h:RepRs K H H' rs vs):rs.length=vs.length:=by
 induction h with
 |nil s=>rfl
 |val s _ _ ih=>simp[ih]
 |new s _ _ _ _ ih=>simp[ih]
def Ret.w:Ret->W
 |.val d=>.val d
 |.new xs=>.own (.lst xs)
def zns:List Nat->List Ret->DSt->DSt
 |i::is,r::rs,σ=>zns is rs (σ.set i (some r.w))
 |_,_,σ=>σ
def znt:List Nat->List V->St->St
 |i::is,v::vs,σ=>znt is vs (σ.set i (some v))
 |_,_,σ=>σ
theorem DOk.multi{K:PySem.W.Frag}{H₀ H H':Hp}{rs:List Ret}{vs:List V}(h:RepRs K H H' rs vs):∀{σD:DSt}{σ:St} (is:List Nat),DOk K H₀ H σD σ->DOk K H₀ H' (zns is rs σD) (znt is vs σ):=by
 induction h with
 |nil s=>intro σD σ is ok;cases is <;> exact ok.after s
 |val s r t ih=>
  intro σD σ is ok
  cases is with
  |nil=>exact(ok.after s).after t.same
  |cons i is=>exact ih is ((ok.after s).setV r i)
 |new s n e r t ih=>
  intro σD σ is ok
  cases is with
  |nil=>exact(ok.after s).after t.same
  |cons i is=>exact ih is (ok.setO s n e r i)
abbrev DTM:=DSt->(List Ret->Prop)->Prop
structure DM(X:Cx)(es:List Expr)(t:DTM):Prop where
 run:∀(pos:Pos) (pins:List (Addr×Obj)) (s:Shared) (σ:St) (H H₀:Hp) (σD:DSt) (Q:List Ret->Prop),Inv X pins σ H s->DOk X.K H₀ H σD σ->t σD Q ->
  wpAny (model X.prog X.w) X.A (spliced (backTo pos (starEach es X.env))) (λus s'=>∃vs H' rs,Inv X pins σ H' s'/\Vals vs us/\RepRs X.K H H' rs vs/\Q rs) X.xe s
def cnM(K:PySem.W.Frag)(t:DTM):TA:=λσ H Q=>∃H₀ σD QD,DOk K H₀ H σD σ/\t σD QD/\∀vs H' rs,RepRs K H H' rs vs->QD rs->Q vs H'
theorem DM.pa{t:DTM}(h:DM X es t):PA X es (cnM X.K t):=λpos pins s σ H Q I zq65=>by obtain⟨H₀,σD,QD,ok,q,k⟩:=zq65;exact thn (h.run pos pins s σ H H₀ σD QD I ok q) λus s' zq60=>by obtain⟨vs,H',rs,I',r,rp,qd⟩:=zq60;exact⟨vs,H',I',r,k vs H' rs rp qd⟩
def znu:DTM:=λ_ Q=>Q []
def znv(t:DTE)(r:DTM):DTM:=λσ Q=>t σ λd=>r σ λrs=>Q (.val d::rs)
def znw(t:DTF)(r:DTM):DTM:=λσ Q=>t σ λxs=>r σ λrs=>Q (.new xs::rs)
theorem zs9:DM X [] znu:=⟨λpos pins s σ H H₀ σD Q I ok q=>thn (vf pos pins s σ H (λvs H'=>vs = []/\H'=H) I ⟨rfl,rfl⟩) λus s' zq48=>by obtain⟨vs,H',I',r,e1,e2⟩:=zq48;subst e1 e2;exact⟨[],H',[],I',r,.nil (Same.refl _),q⟩⟩
theorem zta{r:DTM}(ha:DE X e te)(hr:DM X es r)(hs:starEach (e::es) X.env=(false,eval e X.env)::starEach es X.env:=by rfl):DM X (e::es) (znv te r):=⟨λpos pins s σ H H₀ σD Q I ok q=>by
 refine thn (xz ha.pe hr.pa hs pos pins s σ H (λvs H'=>∃rs,RepRs X.K H H' rs vs/\Q rs) I ?_) λus s' zq10=>by obtain⟨vs,H',I',r,rs,rp,qd⟩:=zq10;exact⟨vs,H',rs,I',r,rp,qd⟩
 exact⟨H₀,σD,_,ok,q,λv H1 d s1 r1 q1=>⟨H₀,σD,_,ok.after s1,q1,λvs H2 rs r2 q2=>⟨.val d::rs,.val s1 r1 r2,q2⟩⟩⟩⟩
theorem ztb{r:DTM}(ha:DF X e tf)(hr:DM X es r)(hs:starEach (e::es) X.env=(false,eval e X.env)::starEach es X.env:=by rfl):DM X (e::es) (znw tf r):=⟨λpos pins s σ H H₀ σD Q I ok q=>by
 refine thn (xz ha.pe hr.pa hs pos pins s σ H (λvs H'=>∃rs,RepRs X.K H H' rs vs/\Q rs) I ?_) λus s' zq10=>by obtain⟨vs,H',I',r,rs,rp,qd⟩:=zq10;exact⟨vs,H',rs,I',r,rp,qd⟩
 exact⟨H₀,σD,_,ok,q,λa H1 ws xs s1 n e r1 q1=>⟨H₀,σD,_,ok.after s1,q1,λvs H2 rs r2 q2=>⟨.new xs::rs,.new s1 n e r1 r2,q2⟩⟩⟩⟩
def znx(is:List Nat)(t:DTM):DTS:=λDn σ=>t σ λrs=>rs.length=is.length/\Dn.nx (zns is rs σ)
theorem zpu{tm:DTM}{i j:Nat}{x y:Str}{a b:Expr}{px py pt:Pos}{kt k2 pt2}(hc:X.calm=true)(hN:X.N.Nodup)(hi:X.N[i]?=some x)(hj:X.N[j]?=some y)(hij:i≠j)
  (hx:X.env.scope.names.lookup x=some .local) (hy:X.env.scope.names.lookup y=some .local) (ha:DM X [a,b] tm)
  (hw:swappedStores [.Tuple [.Name x px,.Name y py] kt pt] (.Tuple [a,b] k2 pt2) X.env=pure (some [x,y]))
  (hs:swapsWithSole [.Tuple [.Name x px,.Name y py] kt pt] (.Tuple [a,b] k2 pt2) pos.line X.env=pure false:=by rfl) :
  DS X (.Assign [.Tuple [.Name x px,.Name y py] kt pt] (.Tuple [a,b] k2 pt2) pos) (znx [i,j] tm) :=
 DS.of (zmf hc hN hi hj hij hx hy ha.pa hw hs) λσ H H₀ σD Dn ok q=>⟨H₀,σD,_,ok,q,λvs H1 rs r1 q1=>by
  have hl:=r1.length
  match vs,rs,r1,q1,hl with
  |[v,w'],[r,r'],r1,q1,_=>exact⟨v,w',rfl,_,DOk.multi r1 [i,j] ok,r1.same.pers,q1.2⟩
  |[],rs,r1,q1,hl=>exact absurd (hl.symm.trans q1.1) (by simp)
  |[_],rs,r1,q1,hl=>exact absurd (hl.symm.trans q1.1) (by simp)
  |_::_::_::_,rs,r1,q1,hl=>exact absurd (hl.symm.trans q1.1) (by simp)⟩
structure DGN(X:Cx)(es:List Expr)(is:List Nat):Prop where
 pgs:PGs X es (λvs σ H Q=>vs.length=is.length/\Q (znt is vs σ) H)
section
variable {pins:List (Addr×Obj)}{σ:St}{H:Hp}{s:Shared}
end
def zvb(X:Cx)(pins:List (Addr×Obj))(σ:St)(H:Hp)(Q:D->Prop)(u:Value)(s':Shared):Prop:=∃v H' d,Inv X pins σ H' s'/\RelV v u/\Same H H'/\RepN X.K H' d v/\Q d
structure DN(X:Cx)(e:Expr)(t:DTE):Prop where
 run:∀(pins:List (Addr×Obj)) (s:Shared) (σ:St) (H H₀:Hp) (σD:DSt) (Q:D->Prop),Inv X pins σ H s->DOk X.K H₀ H σD σ->t σD Q->wpAny (model X.prog X.w) X.A (eval e X.env) (zvb X pins σ H Q) X.xe s
structure DAn(X:Cx)(es:List Expr)(t:DTF):Prop where
 run:∀(pos:Pos) (pins:List (Addr×Obj)) (s:Shared) (σ:St) (H H₀:Hp) (σD:DSt) (Q:List D->Prop),Inv X pins σ H s->DOk X.K H₀ H σD σ->t σD Q ->
  wpAny (model X.prog X.w) X.A (spliced (backTo pos (starEach es X.env))) (λus s'=>∃vs H' ds,Inv X pins σ H' s'/\Vals vs us/\Same H H'/\RepNs X.K H' ds vs/\Q ds) X.xe s
theorem DN.of{t:DTE}{t':TE}(h:PE X e t')(k:∀σ H H₀ σD QD,DOk X.K H₀ H σD σ->t σD QD->t' σ H (λv H'=>∃d,Same H H'/\RepN X.K H' d v/\QD d)):DN X e t :=
 ⟨λpins s σ H H₀ σD Q I ok q=>thn (h pins s σ H _ I (k σ H H₀ σD Q ok q)) λu s' zq80=>by obtain⟨v,H',I',r,d,sm,rp,qd⟩:=zq80;exact⟨v,H',d,I',r,sm,rp,qd⟩⟩
theorem RepNs.length{K:PySem.W.Frag}{H:Hp}{ds:List D}{vs:List V}(h:RepNs K H ds vs):ds.length=vs.length:=h.ind (P:=λds vs=>ds.length=vs.length) rfl λ_ _ _ _ _ _ j=>congrArg (·+1) j
end
section
variable {X:Cx}{tg iter e:Expr}{es:List Expr}{te:DTE}{tf:DTF}{p pos:Pos}
def zny:List D->(D->Prop)->Prop
 |[.list xs],Q=>∃ns,za1 xs=some ns/\0<ns.length/\∀m:Int,m∈ns->(∀a∈ns,m<=a)->Q (.int m)
 |_,_=>False
theorem zlc(hc:X.calm=true):v7 X (.builtin "min") (λvs H Q=>∃(l:Addr) (ns:List Int),vs = [.ref l]/\SqL X.K H l (ns.map V.int)/\0<ns.length/\∀m:Int,m∈ns->(∀a∈ns,m<=a)->Q (.int m) H):=by
 intro pins s σ H xs us Q I rv h;obtain⟨l,ns,rfl,hq,hne,q⟩:=h;obtain⟨u,rfl,r1⟩:=rv.one
 cases r1;obtain⟨its,rvs,pl,hz⟩:=I.list hq;have hi:IntsAre its ns:=qa rvs;obtain⟨xs,e⟩:=hi.allInts.items;have hns:ns=xs.toList.map (·.1):=by rw[<-hi.numsOf,<-nums_intItems,<-e]
 have hsz:0<xs.size:=by have h3:=hne;rw[hns,List.length_map,Array.length_toList]at h3;exact h3
 have hl:s.heap.IsList l (intItems xs):=by rw[<-e];exact pl.isList
 refine min_intList (I.ok.hd hc) hl hsz λv h' tk hv hk=>?_;obtain⟨t,rfl⟩:=intItems_at hv;obtain⟨h1,h2⟩:=argBest_lt (numAt xs) (xs.size-1);refine⟨.int _,H,I.kept hk,⟨t,rfl⟩,q _ ?_ λa ha=>?_⟩
 ·rw[hns,numAt_eq];exact getD_mem (by rw[List.length_map,Array.length_toList];omega)
 ·rw[hns]at ha;obtain⟨j,hj,rfl⟩:=mem_getD ha;rw[List.length_map,Array.length_toList]at hj;rw[<-numAt_eq];exact h2 j (by omega)
theorem ztc(hc:X.calm=true):CallD X (.builtin "min") zny:=CallD.of (zlc hc) λvs H ds Q rd q=>by
 match ds,q,rd with
 |[.list xs],q,rd=>
  obtain⟨v,rfl,r⟩:=rd.one;obtain⟨a,vs,rfl,h,r⟩:=r.list.sq;obtain⟨ns,e,hl,q⟩:=q
  cases zbk r e;exact⟨a,ns,rfl,h,hl,λm h1 h2=>⟨_,Same.refl _,.int,q m h1 h2⟩⟩
end
section
variable {prog:Program}{w:World}{A:Around}{E:Value->Shared->Prop}{s:Shared}
theorem ztd{b:Bool}{it l:Addr}{items:Array Value}(hh:A.handled=none)(hne:l≠it):Draws prog w A it [it,l] items.size (λi x=>items[i]?=some x) (λi h=>zIt b h it l i/\zSq b h l items) where
 live:=λi h st=>by
  obtain⟨o,e,_⟩:=st.1.own;exact⟨o,e⟩
 frame:=λi h h' st k=>⟨st.1.at λo e=>k it (by simp) o e,by
  cases b
  ·obtain⟨o,e,r⟩:=(show h.IsList l items from st.2);exact(show h'.IsList l items from⟨o,k l (by simp) o e,r⟩)
  ·obtain⟨o,e,r⟩:=(show h.IsTuple l items from st.2);exact(show h'.IsTuple l items from⟨o,k l (by simp) o e,r⟩)⟩
 item:=λi s Q E hi st hQ=>by
  refine km st.1 st.2 (x:=items[i]) (by simp[hi]) λh' hit' hs'=>?_;refine hQ _ h' s.toks (by simp[hi]) ⟨hit',?_⟩ hs'
  cases b
  ·obtain⟨o,e,r⟩:=(show s.heap.IsList l items from st.2);exact(show h'.IsList l items from⟨o,(hs'.2 l hne).trans e,r⟩)
  ·obtain⟨o,e,r⟩:=(show s.heap.IsTuple l items from st.2);exact(show h'.IsTuple l items from⟨o,(hs'.2 l hne).trans e,r⟩)
 done:=λs Q E st hE=>j0 hh st.1 st.2 (by simp) hE
theorem zg4(b:Bool)(l:Addr)(items:Array Value):
  Meets (Builtin.«enumerate.__new__» ⟨[.type "enumerate",.ref l],[]⟩) (λ_ R s=>zSq b s.heap l items /\
   R (.ok (.ret (.ref (s.heap.push (zOb b l)).objs.size)))
    { s with heap:=(s.heap.push (zOb b l)).push { cls:=.type "enumerate",data:=.fields #[.none,.bool false,.ref s.heap.objs.size,rawInt 0,.none,.none] } }) :=
 .of_wp λprog w A R s h=>by
  obtain⟨hp,g,d,tk,os⟩:=s;obtain⟨hl,h⟩:=h;have hsub:=sub_enumerate
  wp_walk
  refine wpAny_stack_any λst=>wpAny_pure ?_
  split
  ·rename_i c _ _ _ _ _
   cases (c == Value.type "enumerate")
   ·wp_walk using zgt hl
    exact⟨_,rfl,h⟩
   ·wp_walk using zgt hl
    exact⟨_,rfl,h⟩
  ·wp_walk using zgt hl
   exact⟨_,rfl,h⟩
theorem zij{b:Bool}{l:Addr}{items:Array Value}{Q:Value->Shared->Prop}(hL:zSq b s.heap l items)
  (h:∀h',IsEnum h' (s.heap.objs.size+1) s.heap.objs.size 0 .none->zIt b h' s.heap.objs.size l 0->h'.objs.size=s.heap.objs.size+2 ->
   (∀b o,s.heap.get? b=some o->h'.get? b=some o)->Q (.ref (s.heap.objs.size+1)) { s with heap:=h' }) :
  wpAny (model prog w) A (call (.type "enumerate") [.ref l]) Q E s:=by
 refine callType_new F.called_enumerate (by decide) (F.typeCall_enumerate_1 _) (F.newCall_enumerate_1 _) (λobj=>F.args_object_init_2 obj _) F.entry_enumerate_new (zg4 b l items) ⟨hL,?_⟩;have hz:(s.heap.push (zOb b l)).objs.size=s.heap.objs.size+1:=Heap.size_push ..;show _/\_;rw[hz];have he:IsEnum ((s.heap.push (zOb b l)).push
   { cls:=.type "enumerate",data:=.fields #[.none,.bool false,.ref s.heap.objs.size,rawInt 0,.none,.none] }) (s.heap.objs.size+1) s.heap.objs.size 0 .none:=by
  have:=Heap.get?_push_size (s.heap.push (zOb b l))
   (o:={ cls:=.type "enumerate",data:=.fields #[.none,.bool false,.ref s.heap.objs.size,rawInt 0,.none,.none] }) rfl
  rw[hz]at this;exact this
 have hi:zIt b ((s.heap.push (zOb b l)).push { cls:=.type "enumerate",data:=.fields #[.none,.bool false,.ref s.heap.objs.size,rawInt 0,.none,.none] }) s.heap.objs.size l 0:=by
  have g:((s.heap.push (zOb b l)).push { cls:=.type "enumerate",data:=.fields #[.none,.bool false,.ref s.heap.objs.size,rawInt 0,.none,.none] }).get? s.heap.objs.size=some (zOb b l):=Heap.get?_push_of_some _ (Heap.get?_push_size _ rfl)
  cases b
  ·exact⟨_,g,rfl,rfl⟩
  ·exact⟨_,g,rfl,rfl⟩
 exact⟨⟨_,he,rfl⟩,h _ he hi (by rw[Heap.size_push,hz]) λb o x=>Heap.get?_push_of_some _ (Heap.get?_push_of_some _ x)⟩
end
def zpv(b:Bool)(K:PySem.W.Frag)(a:Addr):It :=
 ⟨λi H=>∃xs x,SqG b K H a xs/\xs[i]?=some x,λi H v H'=>∃p x,H p=none/\v=.ref p/\H'=upd H p (.tup [.int i,x])/\∀xs,SqG b K H a xs->xs[i]?=some x,λi H=>∃xs,SqG b K H a xs/\xs.length<=i⟩
theorem zik{P:Program}{w:World}{K:PySem.W.Frag}{b:Bool}{elts:List Expr}{x1}{tpos:Pos}{l e it:Addr}(hne:e≠it)(hle:l≠it)(hel:e≠l):
  zfa P w K (.Tuple elts x1 tpos) (zpv b K l) [e,it] e (λi h=>(∃old,IsEnum h e it i old)/\zIt b h it l i) where
 mem:=by simp
 obj:=λi h st c hb=>by
  obtain⟨⟨old,he⟩,h1⟩:=st;simp only[List.mem_cons,List.not_mem_nil,or_false]at hb;rcases hb with rfl|rfl
  ·exact⟨_,he,λv q=>by cases (show Data.fields _=Data.cell v from q)⟩
  ·exact h1.own
 keep:=λi h h' st k=>by
  obtain⟨⟨old,he⟩,h1⟩:=st;exact⟨⟨old,k _ (by simp) _ he⟩,h1.at λo e=>k it (by simp) o e⟩
 item:=by
  intro X hP hw hK hc i pins s σ H E I hf st hg;subst hP hw hK;obtain⟨xs,x,hq,hx⟩:=hg;obtain⟨⟨old,he⟩,h1⟩:=st;obtain⟨its,rv,p,hz⟩:=I.sqG hq;obtain⟨u,hu,ru⟩:=rv.get hx;have hlt:i<its.toArray.size:=by have:=(List.getElem?_eq_some_iff.mp hu).1;simpa using this
  refine wpAny_pyNext_enum_itemD (ztd (b:=b) (A:=X.A.in1) (I.ok.hd hc) hle) he ⟨h1,p⟩ hlt hne (by simp[hne,hel]) λu' h' tk hu' he' h1' hp' hsz hk=>⟨_,rfl,?_⟩
  have eu:u'=u:=by
   have e1:its.toArray[i]?=some u:=by simpa using hu
   rw[e1]at hu';exact(Option.some.inj hu').symm
  subst eu;refine wpAny_letOwnedTupleGo_enum he' λh'' he'' hsb=>?_;have ne:s.heap.objs.size≠e:=λq=>by have:=Heap.lt_size he;rw[<-q]at this;exact Nat.lt_irrefl _ this
  have hp2:=(hsb.2 _ ne).trans hp';have nb:∀c o,s.heap.get? c=some o->c≠s.heap.objs.size:=λc o e=>Nat.ne_of_lt (Heap.lt_size e);have I1:Inv X pins σ (upd H s.heap.objs.size (.tup [.int i,x])) { s with heap:=h'',toks:=tk+1 }:=by
   refine I.turnedNew (ch:=[e,it]) hf (Nat.le_refl _) (λb u hb e=>?_) ⟨by simp[sizeLine_eq],[.int i tk,u'],.cons ⟨_,rfl⟩ (.cons ru .nil),?_⟩
   ·simp only[List.mem_cons,List.not_mem_nil,or_false,not_or]at hb;exact(hsb.2 b hb.1).trans (hk b u hb.1 hb.2 e)
   ·exact⟨_,hp2,rfl,⟨_,rfl⟩,rfl⟩
  refine⟨.ref s.heap.objs.size,_,I1,rfl,⟨_,x,I.hok.fresh (Nat.le_refl _),rfl,rfl,λxs' h=>by rw[I.sqG_inj h hq];exact hx⟩,⟨⟨_,he''⟩,?_⟩,λb hb=>?_⟩
  ·exact h1'.1.at λo e'=>(hsb.2 _ (Ne.symm hne)).trans e'
  ·rw[zn]
   ·exact(hf b hb).1
   ·intro q;subst q;simp only[List.mem_cons,List.not_mem_nil,or_false]at hb;obtain⟨o1,e1,_⟩:=h1.own;rcases hb with q|q
    ·exact nb _ _ he q.symm
    ·exact nb _ _ e1 q.symm
 done:=by
  intro X hP hw hK hc i pins s σ H E I hf st hg;subst hP hw hK;obtain⟨xs,hq,hl⟩:=hg;obtain⟨⟨old,he⟩,h1⟩:=st;obtain⟨its,rv,p,hz⟩:=I.sqG hq;have e1:=rv.length;have hT:s.TypeIs (.ref e) "enumerate" :=⟨_,he,rfl⟩
  unfold pyNext;refine wpAny_bind (wpAny_attempt (wpAny_callSpecial?_slot (name:=Str.ofString "__next__") hT F.slot_enumerate_next
   (wpAny_call_entry F.slot_enumerate_next hT F.entry_enumerate_next ?_ (F.args_enumerate_next_1 _))))
  show wpAny _ _ (field (.ref e) 2 >>= _) _ _ _;refine wpAny_bind (wpAny_field he rfl (x:=.ref it) rfl ?_);refine wpAny_bind (j0 (b:=b) (A:=X.A.in1) (I.ok.hd hc) h1 p (by simp;omega) λh' x he' hx'=>?_);obtain⟨o,ho,hcc⟩:=hx';refine wpAny_bind (wpAny_isInstance (T := "StopIteration") (b:=true) ⟨o,ho,hcc⟩ isSubtype_stop ?_);refine wpAny_pure ⟨rfl,?_⟩;refine I.turnedL (t':=s.toks) (ch:=[e,it]) hf λb u hb e=>?_;simp only[List.mem_cons,List.not_mem_nil,or_false,not_or]at hb;exact he' b u hb.2 e
 self:=λ_ _ _ _ _ st h=>by
  obtain⟨⟨old,he⟩,h1⟩:=st;exact wpAny_pyIter_enum he h
section
variable {X:Cx}{a:Expr}{t:DTF}{p pos:Pos}
theorem znz{elts:List Expr}{x1}{tpos:Pos}{ta:TA}(hg:Gl X "enumerate")(hm:X.mg "enumerate" = none)(ha:PA X [a] ta)(hs:starEach [a] X.env = [(false,eval a X.env)]:=by rfl):
  PI X (.Tuple elts x1 tpos) (.Call (.Name "enumerate" p) [a] [] pos) (λσ H R=>ta σ H λvs H1=>∃b a,vs = [.ref a]/\(∃xs,SqG b X.K H1 a xs)/\R (zpv b X.K a) H1):=by
 intro pins s σ H R I h;refine Call_ (v6 I hg hm boot_enumerate (PyProof.Rows.callWith_type1 (thn (ha pos pins s σ H _ I h) λus s1 ⟨vs,H1,I1,r1,q1⟩=>?_) hs rfl));obtain⟨b,l,e,⟨xs,hq⟩,q⟩:=q1;subst e;obtain⟨v1,rfl,r1'⟩:=r1.one
 cases r1';obtain⟨its,rv,p,hz⟩:=I1.sqG hq;have hlt:=p.lt;refine zij p λh' he hi hsz hk=>wpAny_pyIter_enum he ?_;have I2:Inv X pins σ H1 { s1 with heap:=h' }:=I1.kept (t':=s1.toks) hk;refine⟨_,[s1.heap.objs.size+1,s1.heap.objs.size],_,_,H1,rfl,I2,zik (Nat.ne_of_gt (Nat.lt_succ_self _)) (Nat.ne_of_lt hlt) (Nat.ne_of_gt (Nat.lt_succ_of_lt hlt)),⟨⟨_,he⟩,hi⟩,λb hb=>?_,q⟩;have hb':s1.heap.objs.size<=b:=by
  simp only[List.mem_cons,List.not_mem_nil,or_false]at hb;rcases hb with rfl|rfl <;> omega
 exact I1.fpOk hb' (I1.hok.fresh hb')
theorem zpw{K:PySem.W.Frag}{Kp:Hp->Hp->Prop}{H1:Hp}{b:Bool}{a:Addr}{xs:List D}{vs:List V}(kp:∀H,Kp H1 H->SqG b K H a vs/\Reps K H xs vs):ItOk K Kp (zpv b K a) H1 (vx 0 xs) where
 go:=λH i d k e=>by
  obtain⟨hs,r⟩:=kp H k;obtain⟨y,e1,rfl⟩:=zeo e;obtain⟨v,e2,r1⟩:=r.get e1;refine⟨⟨vs,v,hs,e2⟩,λx H' yl=>?_⟩;obtain⟨p,w,hp,rfl,rfl,y⟩:=yl;have:=y vs hs;rw[e2]at this
  cases this;refine⟨ya hp _,.tup (SqT.of zp) (.cons ?_ (.cons (r1.same (ya hp _)) .nil))⟩;rw[Nat.zero_add];exact .int
 stop:=λH k=>by
  obtain⟨hs,r⟩:=kp H k;exact⟨vs,hs,by rw[zep,r.length];exact Nat.le_refl _⟩
def zil(t:DTF):DTF:=λσ Q=>t σ λds=>match ds with
 |[.list xs]=>Q (vx 0 xs)
 |[.tuple xs]=>Q (vx 0 xs)
 |_=>False
theorem zc2{elts:List Expr}{x1}{tpos:Pos}(hg:Gl X "enumerate")(hm:X.mg "enumerate" = none)(ha:DA X [a] t)(hs:starEach [a] X.env = [(false,eval a X.env)]:=by rfl):
  DI X (.Tuple elts x1 tpos) (.Call (.Name "enumerate" p) [a] [] pos) (zil t) :=
 ⟨λpins s σ H R I ⟨H₀,σD,QD,ok,q,k⟩=>znz hg hm ha.pa hs pins s σ H R I ⟨H₀,σD,_,ok,q,λvs H1 ds s1 r1 q1=>by
  have key:∀d xs,ds = [d]->(d=.list xs\/d=.tuple xs)->QD (vx 0 xs)->∃b a,vs = [.ref a]/\(∃xs,SqG b X.K H1 a xs)/\R (zpv b X.K a) H1:=λd xs e1 e2 q2=>by
   subst e1
   cases r1 with
   |cons r t=>
    cases t;obtain⟨b,l,ws,rfl,kk⟩:=r.seqP e2;exact⟨b,l,rfl,⟨ws,(kk _ (Pers.refl _)).1⟩,k _ _ _ s1 (zpw λH' pr=>kk H' pr) q2⟩
  split at q1
  ·exact key _ _ rfl (.inl rfl) q1
  ·exact key _ _ rfl (.inr rfl) q1
  ·exact q1.elim⟩⟩
end
theorem zjv{f:D->(Option D->Prop)->Prop}(Pv:D->D->Prop):∀{ds:List D}{Q:List D->Prop},(∀d∈ds,∀k:Option D->Prop,(∀y,Pv d y->k (some y))->f d k)->(∀ys,Paired Pv ds ys->Q ys)->lcD f ds Q
 |[],Q,_,q=>q [] .nil
 |d::ds,Q,h,q=>h d List.mem_cons_self _ λy hy=>zjv Pv (λe he=>h e (List.mem_cons_of_mem _ he)) λys hys=>q (y::ys) (.cons hy hys)
theorem zjw{α:Type}{f:D->(Option D->Prop)->Prop}(enc:α->D)(F:α->Option D){as:List α}{Q:List D->Prop}(h:∀a∈as,∀k:Option D->Prop,k (F a)->f (enc a) k)(q:Q (as.filterMap F)):lcD f (as.map enc) Q:=by
 induction as generalizing Q with
 |nil=>exact q
 |cons a as ih=>
  refine h a List.mem_cons_self _ (ih (λe he=>h e (List.mem_cons_of_mem _ he)) ?_);rw[List.filterMap_cons]at q
  cases e:F a with
  |none=>rw[e]at q;exact q
  |some y=>rw[e]at q;exact q
theorem wb{α:Type}{f:D->(Option D->Prop)->Prop}(enc:α->D)(F:α->D){as:List α}{Q:List D->Prop}(h:∀a∈as,∀k:Option D->Prop,k (some (F a))->f (enc a) k)(q:Q (as.map F)):lcD f (as.map enc) Q :=
 zjw enc (λa=>some (F a)) h (by rw[List.filterMap_eq_map'];exact q)
theorem zim{f:D->(Option D->Prop)->Prop}{lo:Int}{n:Nat}{Q:List D->Prop}(Pv:D->Prop)(h:∀d,∀k:Option D->Prop,(∀y,Pv y->k (some y))->f d k)(q:∀ys:List D,ys.length=n->(∀y∈ys,Pv y)->Q ys):lcD f (y9 lo n) Q:=by
 refine zjv (λ_ y=>Pv y) (λd _ k hk=>h d k hk) λys hys=>q ys ?_ ?_
 ·have:=Paired.length hys;rw[<-this];simp[y9]
 ·clear q h;generalize y9 lo n=ds at hys
  induction hys with
  |nil=>intro y hy;cases hy
  |cons r t ih=>intro y hy;rcases List.mem_cons.mp hy with rfl|hy;exact r;exact ih y hy
theorem zfq{α:Type}{Pv:α->Prop}{enc:α->D}:∀{ys:List D},(∀y∈ys,∃a,y=enc a/\Pv a)->∃as:List α,ys=as.map enc/\∀a∈as,Pv a
 |[],_=>⟨[],rfl,λa ha=>by cases ha⟩
 |y::ys,h=>by
  obtain⟨a,rfl,pa⟩:=h y List.mem_cons_self;obtain⟨as,rfl,pas⟩:=zfq λz hz=>h z (List.mem_cons_of_mem _ hz);exact⟨a::as,rfl,λb hb=>by rcases List.mem_cons.mp hb with rfl|hb;exact pa;exact pas b hb⟩
theorem ke{α:Type}(x:α)(xs:List α):atI (x::xs) 0=some x:=by
 have:=jy (xs:=x::xs) (j:=0) (v:=x) rfl;simpa using this
theorem j3{α:Type}(x y:α)(xs:List α):atI (x::y::xs) 1=some y:=by
 have:=jy (xs:=x::y::xs) (j:=1) (v:=y) rfl;simpa using this
theorem zvc{xs:List D}{k:Int}{Q:D->Prop}(h0:0<=k)(h1:k<xs.length)(h:∀x∈xs,Q x):∃d,atI xs k=some d/\Q d:=by
 obtain⟨v,e,m⟩:=zmz h0 h1;exact⟨v,e,h v m⟩
theorem zn0{ns:List Int}{k lo hi:Int}{Q:D->Prop}(h0:0<=k)(h1:k<ns.length)(hb:∀n∈ns,lo<=n/\n<=hi)(h:∀n:Int,lo<=n->n<=hi->Q (.int n)):∃d,atI (ns.map PyData.int) k=some d/\Q d :=
 zvc h0 (by simpa using h1) λx hx=>by
  obtain⟨n,hn,rfl⟩:=List.mem_map.mp hx;exact h n (hb n hn).1 (hb n hn).2
theorem zin{α:Type}(enc:α->D)(xs:List α)(lo hi:Option Int):∃ys:List α,x3 (xs.map enc) lo hi=ys.map enc/\(∀y∈ys,y∈xs)/\ys.length<=xs.length:=by
 refine⟨(xs.drop (HT.sIx xs.length 0 lo)).take (HT.sIx xs.length xs.length hi-HT.sIx xs.length 0 lo),?_,λy hy=>List.mem_of_mem_drop (List.mem_of_mem_take hy),?_⟩
 ·unfold x3;rw[List.length_map,List.map_take,List.map_drop]
 ·rw[List.length_take,List.length_drop];omega
theorem jp(xs:List D)(n:Nat):x3 xs none (some (n:Int))=xs.take n:=by
 unfold x3;rw[HT.sIx_none,HT.sIx_nat];simp
structure Sh(d:D)(n k:Nat):Prop where
 can:d.canLay0=true
 sho:d.showable=true
 dep:d.depth<=k
 len:d.shown.length<=n
theorem Sh.mono{d:D}{n k n' k':Nat}(h:Sh d n k)(h1:n<=n')(h2:k<=k'):Sh d n' k':=⟨h.can,h.sho,Nat.le_trans h.dep h2,Nat.le_trans h.len h1⟩
theorem Sh.none:Sh .none 4 0:=⟨rfl,rfl,Nat.le_refl _,Nat.le_of_ble_eq_true rfl⟩
theorem Sh.bool{b:Bool}:Sh (.bool b) 5 0:=⟨rfl,rfl,Nat.le_refl _,by cases b <;> exact Nat.le_of_ble_eq_true rfl⟩
theorem zte{i:Int}(h:i.natAbs<10 ^ 40):i.natAbs.log2<1920:=by
 by_cases h0:i.natAbs=0
 ·rw[h0];decide
 ·exact(Nat.log2_lt h0).mpr (Nat.lt_of_lt_of_le h (Nat.le_trans (by decide:10 ^ 40<=2 ^ 200) (Nat.pow_le_pow_right (by decide) (by decide))))
theorem Sh.int{i:Int}(h:i.natAbs<10 ^ 40):Sh (.int i) 41 0 :=
 ⟨rfl,by simp only[PyData.showable];exact decide_eq_true (zte h),Nat.le_refl _,by
  have:=int_text_length_le10 (a:=i) (k:=40) (by decide) h;simp only[PyData.shown];show(Str.ofString (toString i)).length<=41;rw[PySem.ofString_length];exact this⟩
theorem Sh.intB{i:Int}(h1 : -1000000000000000000000000000000000000000<=i)(h2:i<=1000000000000000000000000000000000000000):Sh (.int i) 41 0:=Sh.int (by omega)
theorem zbn:∀{xs:List D}{n k:Nat},(∀x∈xs,Sh x n k)->PyData.canLayAll0 xs=true
 |[],_,_,_=>rfl
 |x::xs,n,k,h=>by simp only[PyData.canLayAll0,(h x List.mem_cons_self).can,zbn λy hy=>h y (List.mem_cons_of_mem _ hy),Bool.and_self]
theorem zbo:∀{xs:List D}{n k:Nat},(∀x∈xs,Sh x n k)->PyData.showableAll xs=true
 |[],_,_,_=>rfl
 |x::xs,n,k,h=>by simp only[PyData.showableAll,(h x List.mem_cons_self).sho,zbo λy hy=>h y (List.mem_cons_of_mem _ hy),Bool.and_self]
theorem zbp:∀{xs:List D}{n k:Nat},(∀x∈xs,Sh x n k)->PyData.depthAll xs<=k
 |[],_,_,_=>Nat.zero_le _
 |x::xs,n,k,h=>by
  simp only[PyData.depthAll];exact Nat.max_le.mpr ⟨(h x List.mem_cons_self).dep,zbp λy hy=>h y (List.mem_cons_of_mem _ hy)⟩
theorem zbq:∀{xs:List D}{n k:Nat},(∀x∈xs,Sh x n k)->((PyData.shownAll xs).map (·.length)).sum<=xs.length * n
 |[],_,_,_=>by simp[PyData.shownAll]
 |x::xs,n,k,h=>by
  simp only[PyData.shownAll,List.map_cons,List.sum_cons,List.length_cons];have h1:=(h x List.mem_cons_self).len;have h2:=zbq λy hy=>h y (List.mem_cons_of_mem _ hy);rw[Nat.succ_mul];omega
theorem vo:∀xs:List D,(PyData.shownAll xs).length=xs.length
 |[]=>rfl
 |x::xs=>by simp only[PyData.shownAll,List.length_cons,vo xs]
theorem Sh.lst{xs:List D}{n k m:Nat}(h:∀x∈xs,Sh x n k)(hl:xs.length<=m):Sh (.list xs) (m *(n+2)+3) (k+1) where
 can:=by simpa[PyData.canLay0]using zbn h
 sho:=by simpa[PyData.showable]using zbo h
 dep:=by simp only[PyData.depth];have:=zbp h;omega
 len:=by
  simp only[PyData.shown];have h1:=listText_len_le (PyData.shownAll xs);have h2:=zbq h;rw[vo]at h1;have h3:xs.length *(n+2)<=m *(n+2):=Nat.mul_le_mul_right _ hl;rw[Nat.mul_add]at h3;omega
theorem Sh.tup{xs:List D}{n k m:Nat}(h:∀x∈xs,Sh x n k)(hl:xs.length<=m):Sh (.tuple xs) (m *(n+2)+3) (k+1) where
 can:=by simpa[PyData.canLay0]using zbn h
 sho:=by simpa[PyData.showable]using zbo h
 dep:=by simp only[PyData.depth];have:=zbp h;omega
 len:=by
  simp only[PyData.shown];have h1:=tupleText_len_le (PyData.shownAll xs);have h2:=zbq h;rw[vo]at h1;have h3:xs.length *(n+2)<=m *(n+2):=Nat.mul_le_mul_right _ hl;rw[Nat.mul_add]at h3;omega
theorem Sh.lay{d:D}{n k:Nat}(h:Sh d n k)(hk:k<=64):Lay d:=by
 unfold Lay SeqAt.shaped;rw[Bool.and_eq_true];exact⟨h.can,decide_eq_true (Nat.le_trans h.dep hk)⟩
theorem Lay.int(i:Int):Lay (.int i):=rfl
theorem Lay.none:Lay .none:=rfl
theorem Lay.bool(b:Bool):Lay (.bool b):=rfl
theorem zg5{d:D}(h:Lay d):PyData.eqv d d=true:=SeqAt.eqv_refl d h.can
theorem zjx(i j:Int):PyData.eqv (.int i) (.int j)=decide (i=j):=by
 have:PyData.eqv (.int i) (.int j)=(i == j):=by simp only[PyData.eqv]
 rw[this]
 by_cases h:i=j
 ·subst h;simp
 ·rw[decide_eq_false h];exact beq_eq_false_iff_ne.mpr h
theorem wo(ns:List Int):Lay (.list (ns.map PyData.int)):=by
 have h:∀ns:List Int,PyData.canLayAll0 (ns.map PyData.int)=true/\PyData.depthAll (ns.map PyData.int)=0:=λns=>by
  induction ns with
  |nil=>exact⟨rfl,rfl⟩
  |cons n ns ih=>simp[PyData.canLayAll0,PyData.depthAll,PyData.canLay0,PyData.depth,ih.1,ih.2]
 unfold Lay SeqAt.shaped;simp[PyData.canLay0,PyData.depth,(h ns).1,(h ns).2]
theorem kg{m:Int}{Q:Ret->Prop}(h1:0<m)(h2:m<10000000000000000000000000000000000000000000000000000000000000)(q:∀v:Int,0<=v->v<m->Q (.val (.int v))):x4 [.pen,.val (.int m)] Q:=⟨m,rfl,h1,h2,q⟩
section
variable {X:Cx}
end
section
variable {X:Cx}
end
end L2
set_option maxHeartbeats 4000000
namespace PySem
section
variable {prog:Program}{w:World}{A:Around}{R:Result->Shared->Prop}{I:Addr}{fp wr:List Addr}{n:Nat}{P:Nat->Value->Prop}{St:Nat->Heap->Prop}
end
section
variable {prog:Program}{w:World}{A:Around}{E:Value->Shared->Prop}{s:Shared}{l:Addr}{its:Array Value}{d:Value}
end
section
variable {prog:Program}{w:World}{A:Around}{R:Result->Shared->Prop}{I:Addr}{fp wr:List Addr}{n:Nat}{P:Nat->Value->Prop}{St:Nat->Heap->Prop}
end
section
variable {prog:Program}{w:World}{A:Around}{E:Value->Shared->Prop}{s:Shared}{l:Addr}{its:Array Value}{d:Value}
end
end PySem
namespace L2
open PySem PySem.Spec PyProof.Rows
section
variable {X:Cx}{a d e:Expr}{ta:DTF}{td te:DTE}{p pos kp:Pos}
end
theorem atI_end{α:Type}(xs:List α)(x:α):atI (xs ++ [x]) (-1)=some x:=zgn xs x
theorem sliceD_take0(xs:List D){n:Int}(h:0<=n):x3 xs none (some n)=xs.take n.toNat:=by
 have:=jp xs n.toNat;rw[Int.toNat_of_nonneg h]at this;exact this
theorem sliceD_dropLast(xs:List D):x3 xs none (some (-1))=xs.dropLast:=by
 unfold x3;rw[HT.sIx_none];have:HT.sIx xs.length xs.length (some (-1))=xs.length-1:=by
  unfold HT.sIx;simp
  try omega
 rw[this];simp[List.dropLast_eq_take]
theorem j4{α β:Type}(f:α->D)(g:β->D):∀(xs:List α) (ys:List β),qh (xs.map f) (ys.map g)=(xs.zip ys).map λp=>PyData.tuple [f p.1,g p.2]
 |[],_=>by simp[qh]
 |_::_,[]=>by simp[qh]
 |x::xs,y::ys=>by
  have:=j4 f g xs ys;simp only[qh]at this;simp[qh,this]
theorem zbr(ns:List Int):Lay (.tuple (ns.map PyData.int)):=by
 have:=wo ns;unfold Lay SeqAt.shaped at this ⊢;simpa[PyData.canLay0,PyData.depth]using this
mutual
def NB:D->Bool
 |.none=>true
 |.bool _=>false
 |.int _=>true
 |.str _=>true
 |.list xs=>NBs xs
 |.tuple xs=>NBs xs
 |.dict _=>false
def NBs:List D->Bool
 |[]=>true
 |x::xs=>NB x && NBs xs
end
mutual
theorem zjy:∀(x y:D),NB x=true->NB y=true->(PyData.eqv x y=true↔x=y)
 |.none,.none,_,_=>by simp[PyData.eqv]
 |.none,.int _,_,_=>by simp[PyData.eqv]
 |.none,.str _,_,_=>by simp[PyData.eqv]
 |.none,.list _,_,_=>by simp[PyData.eqv]
 |.none,.tuple _,_,_=>by simp[PyData.eqv]
 |.int _,.none,_,_=>by simp[PyData.eqv]
 |.int _,.int _,_,_=>by simp[PyData.eqv]
 |.int _,.str _,_,_=>by simp[PyData.eqv]
 |.int _,.list _,_,_=>by simp[PyData.eqv]
 |.int _,.tuple _,_,_=>by simp[PyData.eqv]
 |.str _,.none,_,_=>by simp[PyData.eqv]
 |.str _,.int _,_,_=>by simp[PyData.eqv]
 |.str _,.str _,_,_=>by simp[PyData.eqv]
 |.str _,.list _,_,_=>by simp[PyData.eqv]
 |.str _,.tuple _,_,_=>by simp[PyData.eqv]
 |.list _,.none,_,_=>by simp[PyData.eqv]
 |.list _,.int _,_,_=>by simp[PyData.eqv]
 |.list _,.str _,_,_=>by simp[PyData.eqv]
 |.list xs,.list ys,h1,h2=>by simp only[PyData.eqv,PyData.list.injEq];exact eqvs_iff xs ys h1 h2
 |.list _,.tuple _,_,_=>by simp[PyData.eqv]
 |.tuple _,.none,_,_=>by simp[PyData.eqv]
 |.tuple _,.int _,_,_=>by simp[PyData.eqv]
 |.tuple _,.str _,_,_=>by simp[PyData.eqv]
 |.tuple _,.list _,_,_=>by simp[PyData.eqv]
 |.tuple xs,.tuple ys,h1,h2=>by simp only[PyData.eqv,PyData.tuple.injEq];exact eqvs_iff xs ys h1 h2
theorem eqvs_iff:∀(xs ys:List D),NBs xs=true->NBs ys=true->(PyData.eqvAll xs ys=true↔xs=ys)
 |[],[],_,_=>by simp[PyData.eqvAll]
 |[],_::_,_,_=>by simp[PyData.eqvAll]
 |_::_,[],_,_=>by simp[PyData.eqvAll]
 |x::xs,y::ys,h1,h2=>by
  simp only[NBs,Bool.and_eq_true]at h1 h2;simp only[PyData.eqvAll,Bool.and_eq_true,List.cons.injEq];rw[zjy x y h1.1 h2.1,eqvs_iff xs ys h1.2 h2.2]
end
theorem zjz:∀{xs:List D},(∀x∈xs,NB x=true)->NBs xs=true
 |[],_=>rfl
 |x::xs,h=>by
  simp only[NBs,Bool.and_eq_true];exact⟨h x List.mem_cons_self,zjz λy hy=>h y (List.mem_cons_of_mem _ hy)⟩
theorem zg6(ns:List Int):NBs (ns.map PyData.int)=true:=zjz λx hx=>by
 obtain⟨i,_,rfl⟩:=List.mem_map.mp hx;rfl
theorem Lay.list{xs:List D}(h:∀x∈xs,Lay x/\x.depth<=63):Lay (.list xs):=by
 unfold Lay SeqAt.shaped;rw[Bool.and_eq_true];have h1:PyData.canLayAll0 xs=true:=by
  induction xs with
  |nil=>rfl
  |cons x xs ih=>
   simp only[PyData.canLayAll0,Bool.and_eq_true];exact⟨(h x List.mem_cons_self).1.can,ih λy hy=>h y (List.mem_cons_of_mem _ hy)⟩
 have h2:PyData.depthAll xs<=63:=by
  clear h1
  induction xs with
  |nil=>simp[PyData.depthAll]
  |cons x xs ih=>
   simp only[PyData.depthAll];have:=(h x List.mem_cons_self).2;have:=ih λy hy=>h y (List.mem_cons_of_mem _ hy);omega
 refine⟨by simpa[PyData.canLay0]using h1,decide_eq_true ?_⟩;simp only[PyData.depth];omega
theorem Lay.tuple{xs:List D}(h:∀x∈xs,Lay x/\x.depth<=63):Lay (.tuple xs):=by
 have:=Lay.list h;unfold Lay SeqAt.shaped at this ⊢;simpa[PyData.canLay0,PyData.depth]using this
theorem zn1{g:DTG}{tb:DTS}{Dn:vy}{ds:List D}{σ:DSt}(S:DSt->Prop)(h0:S σ)(hs:∀d∈ds,∀σ (N:DSt->Prop),S σ->(∀σ',S σ'->N σ')->g d σ λσ2=>tb { Dn with nx:=N,ct:=N,bk:=Dn.nx } σ2)(hd:∀σ,S σ->Dn.nx σ):zdz g tb Dn ds σ:=by
 refine wg (λds' σ=>(∀d∈ds',d∈ds)/\S σ) ?_ (λσ h=>hd σ h.2) ⟨λ_ h=>h,h0⟩;rintro d ds' σ N ⟨h1,h2⟩ k;exact hs d (h1 d List.mem_cons_self) σ N h2 λσ' h'=>k σ' ⟨λx hx=>h1 x (List.mem_cons_of_mem _ hx),h'⟩
section
variable {X:Cx}{e:Expr}{p pos:Pos}
end
end L2
namespace SQ
open PySem PyProof.Rows
set_option autoImplicit false
section
variable (prog:Program)(w:World)(A:Around)(s:Shared)(κ:KeyKind)(kd:SortKind)
def zbs:Prop:=∀(E:Value->Shared->Prop) (x y:Value) (a b:κ.α) (Q:Bool->Shared->Prop),κ.keyOf x=some a->κ.keyOf y=some b->Q (κ.blt a b) s->wpAny (model prog w) A (keyLt' kd x y) Q E s
end
structure SG(kd:SortKind)(a₀:Array Keyed)(st:SortSt):Prop where
 perm:(arrOf st).Perm a₀
 kind:kindOf st=kd
 fail:failedOf st=none
theorem SG.sz{kd:SortKind}{a₀:Array Keyed}{st:SortSt}(g:SG kd a₀ st):(arrOf st).size=a₀.size:=g.perm.size_eq
theorem SG.arr{kd:SortKind}{a₀:Array Keyed}{st:SortSt}(g:SG kd a₀ st){xs:Array Keyed}(p:xs.Perm (arrOf st)):SG kd a₀ (setArr st xs):=⟨p.trans g.perm,g.kind,g.fail⟩
structure Mv(lo hi:Nat)(st st':SortSt):Prop where
 out:∀k,(k<lo\/hi<=k)->(arrOf st')[k]?=(arrOf st)[k]?
 pend:pendingOf st'=pendingOf st
theorem Mv.refl(lo hi:Nat)(st:SortSt):Mv lo hi st st:=⟨λ_ _=>rfl,rfl⟩
theorem Mv.trans{lo hi:Nat}{a b c:SortSt}(h1:Mv lo hi a b)(h2:Mv lo hi b c):Mv lo hi a c:=⟨λk hk=>(h2.out k hk).trans (h1.out k hk),h2.pend.trans h1.pend⟩
theorem Mv.mono{lo hi lo' hi':Nat}{a b:SortSt}(h:Mv lo hi a b)(h1:lo'<=lo)(h2:hi<=hi'):Mv lo' hi' a b:=⟨λk hk=>h.out k (by omega),h.pend⟩
abbrev Up(κ:KeyKind)(xs:Array Keyed)(lo n:Nat):Prop:=∀i j,lo<=i->i<=j->j<lo+n->κ.kle (KK κ xs i) (KK κ xs j)
abbrev Dn(κ:KeyKind)(xs:Array Keyed)(lo n:Nat):Prop:=∀i j,lo<=i->i<=j->j<lo+n->κ.kle (KK κ xs j) (KK κ xs i)
theorem j5{st:SortSt}{i j lo hi:Nat}(hj:j<=(arrOf st).size)(h1:lo<=i)(h2:j<=hi):Mv lo hi st (setArr st (mirror (arrOf st) i j ((j-i) / 2))) :=
 ⟨λk hk=>by
  show(mirror (arrOf st) i j ((j-i) / 2))[k]?=_;rw[getElem?_mirror_all hj,if_neg (by omega)],rfl⟩
section
variable {prog:Program}{w:World}{A:Around}{E:Value->Shared->Prop}{s:Shared}{κ:KeyKind}{kd:SortKind}{a₀:Array Keyed}
theorem SG.key{st:SortSt}(g:SG kd a₀ st)(h0:KeysOf κ a₀){i:Nat}(hi:i<a₀.size):∃x p,(arrOf st)[i]?=some (x,p)/\κ.keyOf x=some (KK κ (arrOf st) i):=by
 have l:i<(arrOf st).size:=by rw[g.sz];exact hi
 obtain⟨a,ha⟩:=h0 ((arrOf st)[i]) ((Array.perm_iff_toList_perm.mp g.perm).mem_iff.mp (by simp));have e:(arrOf st)[i]?=some (arrOf st)[i]:=getElem?_pos _ i l;refine⟨(arrOf st)[i].1,(arrOf st)[i].2,e,?_⟩;rw[ha];unfold KK;rw[e];simp[ha]
theorem zwg{st:SortSt}{x y:Keyed}{a b:κ.α}{Q:Option Bool->SortSt->Prop}(L:zbs prog w A s κ kd)(hk:kindOf st=kd)(ha:κ.keyOf x.1=some a)(hb:κ.keyOf y.1=some b)(q:Q (some (κ.blt a b)) st):
  wpS (model prog w) A E s (lt' x y) Q st:=by
 rw[lt'_eq];refine wpS_bind (wpS_get ?_);rw[hk];exact wpS_bind (wpS_lift (wpAny_attempt (L _ x.1 y.1 a b _ ha hb ⟨rfl,wpS_pure q⟩)))
theorem zn2{st:SortSt}{xs:Array Keyed}{i:Nat}{p:Keyed}{Q:Keyed->SortSt->Prop}(e:xs[i]?=some p)(q:Q p st):wpS (model prog w) A E s (elem' xs i) Q st:=by
 rw[elem'_eq,e];exact wpS_pure q
theorem zc3{st:SortSt}{i j:Nat}{Q:Option Bool->SortSt->Prop}(L:zbs prog w A s κ kd)(g:SG kd a₀ st)(h0:KeysOf κ a₀)(hi:i<a₀.size)(hj:j<a₀.size)
  (q:Q (some (κ.blt (KK κ (arrOf st) i) (KK κ (arrOf st) j))) st):wpS (model prog w) A E s (ltAt' i j) Q st:=by
 obtain⟨x,p,e1,k1⟩:=g.key h0 hi;obtain⟨y,r,e2,k2⟩:=g.key h0 hj;rw[ltAt'_eq];refine wpS_bind (wpS_get ?_);exact wpS_bind (zn2 e1 (wpS_bind (zn2 e2 (zwg L g.kind k1 k2 q))))
theorem zj0{st:SortSt}{i j:Nat}{Q:Unit->SortSt->Prop}(q:Q () (setArr st (mirror (arrOf st) i j ((j-i) / 2)))):wpS (model prog w) A E s (reverseSlice' i j) Q st:=by
 rw[reverseSlice'_eq];exact wpS_modify q
def zc4(lo a m:Nat):StateT SortSt Sem (Option (Option Nat)×Nat) :=
 forIn [a:m] ((none,a):Option (Option Nat)×Nat) λ_ c=>do
  let o <-ltAt' (lo+c.snd) (lo+c.snd-1)
  match o with
  |some less=>if less=true then pure (ForInStep.done (none,c.snd)) else pure (ForInStep.yield (none,c.snd+1))
  |_=>pure (ForInStep.done (some none,c.snd))
def zc5(lo n m:Nat):StateT SortSt Sem (Option Nat):=do
 reverseSlice' lo (lo+n)
 let c <-zc4 lo n m
 match c.fst with
 |some r=>pure r
 |none=>pure (some c.snd)
def zfr(lo n m:Nat):StateT SortSt Sem (Option (Option Nat)×Nat×Nat) :=
 forIn [n:m] ((none,n,0):Option (Option Nat)×Nat×Nat) λ_ c=>do
  let o <-ltAt' (lo+c.snd.fst) (lo+c.snd.fst-1)
  match o with
  |some less=>
   if less=true then
    if c.snd.snd > 0 then do
     reverseSlice' (lo+c.snd.fst-(c.snd.snd+1)) (lo+c.snd.fst)
     pure (ForInStep.yield (none,c.snd.fst+1,0))
    else pure (ForInStep.yield (none,c.snd.fst+1,0))
   else do
    let o <-ltAt' (lo+c.snd.fst-1) (lo+c.snd.fst)
    match o with
    |some more=>
     if more=true then pure (ForInStep.done (none,c.snd.fst,c.snd.snd))
     else pure (ForInStep.yield (none,c.snd.fst+1,c.snd.snd+1))
    |_=>pure (ForInStep.done (some none,c.snd.fst,c.snd.snd))
  |_=>pure (ForInStep.done (some none,c.snd.fst,c.snd.snd))
def zg7(lo n m:Nat):StateT SortSt Sem (Option Nat):=do
 liftM (rule "list.sort.descending-run")
 let c <-zfr lo (n+1) m
 match c.fst with
 |some r=>pure r
 |none=>
  if c.snd.snd > 0 then do
   reverseSlice' (lo+c.snd.fst-(c.snd.snd+1)) (lo+c.snd.fst)
   zc5 lo c.snd.fst m
  else zc5 lo c.snd.fst m
theorem zb7(lo m:Nat):countRun' lo m=(do
  let c <-zc4 lo 1 m
  match c.fst with
  |some r=>pure r
  |none=>
   if (c.snd == m)=true then pure (some c.snd)
   else if c.snd > 1 then do
    let o <-ltAt' lo (lo+c.snd-1)
    match o with
    |some rose=>if rose=true then pure (some c.snd) else do
      reverseSlice' lo (lo+c.snd)
      zg7 lo c.snd m
    |_=>pure none
   else zg7 lo c.snd m):=by
 rw[countRun'_eq];unfold zg7 zc5 zfr zc4;dsimp only;congr 1
 funext c
 obtain⟨r,n⟩:=c
 cases r with
 |some r=>rfl
 |none=>
  dsimp only
  split
  ·rfl
  ·split
   ·congr 1
    funext x
    cases x with
    |none=>rfl
    |some rose=>
     dsimp only
     split
     ·rfl
     ·congr 1
      funext _
      congr 1;funext _;congr 1;congr 1;funext c2;obtain⟨r2,n2,q2⟩:=c2;cases r2 with
      |some r2=>rfl
      |none=>
       dsimp only
       split
       ·congr 1;funext _;congr 1;funext _;congr 1;funext c3;obtain⟨r3,n3⟩:=c3;cases r3 <;> rfl
       ·congr 1;funext _;congr 1;funext c3;obtain⟨r3,n3⟩:=c3;cases r3 <;> rfl
   ·congr 1;funext _;congr 1;congr 1;funext c2;obtain⟨r2,n2,q2⟩:=c2;cases r2 with
    |some r2=>rfl
    |none=>
     dsimp only
     split
     ·congr 1;funext _;congr 1;funext _;congr 1;funext c3;obtain⟨r3,n3⟩:=c3;cases r3 <;> rfl
     ·congr 1;funext _;congr 1;funext c3;obtain⟨r3,n3⟩:=c3;cases r3 <;> rfl
end
end SQ
namespace SQ
open PySem PyProof.Rows
set_option autoImplicit false
section
variable {prog:Program}{w:World}{A:Around}{E:Value->Shared->Prop}{s:Shared}{κ:KeyKind}{kd:SortKind}{a₀:Array Keyed}
theorem Up.next{xs:Array Keyed}{lo n:Nat}(h:Up κ xs lo n)(h1:1<=n)(c:κ.blt (KK κ xs (lo+n)) (KK κ xs (lo+n-1))=false):Up κ xs lo (n+1):=λi j a b d=>by
 by_cases e:j<lo+n
 ·exact h i j a b e
 ·have ej:j=lo+n:=by omega
  subst ej
  by_cases e2:i=lo+n
  ·subst e2;exact KeyOrd.kle_refl _
  ·exact KeyOrd.kle_trans (h i (lo+n-1) a (by omega) (by omega)) c
theorem zvd{st:SortSt}{lo a m:Nat}{Q:Option (Option Nat)×Nat->SortSt->Prop}(L:zbs prog w A s κ kd)(h0:KeysOf κ a₀)(g:SG kd a₀ st)(hm:lo+m<=a₀.size)(ha:1<=a)(hu:Up κ (arrOf st) lo a)(ham:a<=m)
  (q:∀n,a<=n->n<=m->Up κ (arrOf st) lo n->(n=m\/κ.klt (KK κ (arrOf st) (lo+n)) (KK κ (arrOf st) (lo+n-1)))->Q (none,n) st):wpS (model prog w) A E s (zc4 lo a m) Q st:=by
 unfold zc4;refine wpS_forRange (I:=λx c st'=>st'=st/\c=(none,x)/\Up κ (arrOf st) lo x) (λx c st' hx1 hx2 h=>?_) (λc st' h=>?_) ⟨rfl,rfl,hu⟩
 ·obtain⟨rfl,rfl,hx⟩:=h;dsimp only;refine wpS_bind (zc3 L g h0 (by omega) (by omega) ?_)
  cases cb:κ.blt (KK κ (arrOf st') (lo+x)) (KK κ (arrOf st') (lo+x-1)) with
  |true=>exact wpS_pure (q x hx1 (by omega) hx (.inr cb))
  |false=>exact wpS_pure ⟨rfl,rfl,hx.next (by omega) cb⟩
 ·obtain⟨rfl,rfl,hx⟩:=h;rw[show max a m=m by omega]at hx ⊢;exact q m ham (Nat.le_refl _) hx (.inl rfl)
theorem zq6{st st0:SortSt}{lo n m:Nat}{Q:Option Nat->SortSt->Prop}(L:zbs prog w A s κ kd)(h0:KeysOf κ a₀)(g:SG kd a₀ st)(hm:lo+m<=a₀.size)(h1:1<=n)(hnm:n<=m)(hd:Dn κ (arrOf st) lo n)(mv:Mv lo (lo+m) st0 st)
  (q:∀k st',SG kd a₀ st'->Mv lo (lo+m) st0 st'->1<=k->k<=m->Up κ (arrOf st') lo k->Q (some k) st'):wpS (model prog w) A E s (zc5 lo n m) Q st:=by
 unfold zc5;have sz:lo+n<=(arrOf st).size:=by rw[g.sz];omega
 refine wpS_bind (zj0 ?_);have g':=g.arr (mirror_perm (arrOf st) lo (lo+n) ((lo+n-lo) / 2));refine wpS_bind (zvd L h0 g' hm h1 (λi j a b c=>?_) hnm λk k1 k2 hk _=>wpS_pure (q k _ g' (mv.trans (j5 sz (Nat.le_refl _) (by omega))) (by omega) k2 hk));show κ.kle (KK κ (mirror (arrOf st) lo (lo+n) ((lo+n-lo) / 2)) i) (KK κ (mirror (arrOf st) lo (lo+n) ((lo+n-lo) / 2)) j);rw[KK_mirror sz,KK_mirror sz,if_pos (by omega),if_pos (by omega)];exact hd _ _ (by omega) (by omega) (by omega)
theorem Dn.next{xs:Array Keyed}{lo n:Nat}(h:Dn κ xs lo n)(h1:1<=n)(c:κ.kle (KK κ xs (lo+n)) (KK κ xs (lo+n-1))):Dn κ xs lo (n+1):=λi j a b d=>by
 by_cases e:j<lo+n
 ·exact h i j a b e
 ·have ej:j=lo+n:=by omega
  subst ej
  by_cases e2:i=lo+n
  ·subst e2;exact KeyOrd.kle_refl _
  ·exact KeyOrd.kle_trans c (h i (lo+n-1) a (by omega) (by omega))
theorem zfs{xs:Array Keyed}{i j:Nat}(hj:j<=xs.size)(he:∀k,i<=k->k<j->KK κ xs k=KK κ xs (j-1))(k:Nat):KK κ (mirror xs i j ((j-i) / 2)) k=KK κ xs k:=KK_mirror_equal hj he k
theorem zwh{st:SortSt}{lo n m:Nat}{Q:Option (Option Nat)×Nat×Nat->SortSt->Prop}(L:zbs prog w A s κ kd)(h0:KeysOf κ a₀)(g:SG kd a₀ st)(hm:lo+m<=a₀.size)(h1:1<=n)(hnm:n<=m)(hd:Dn κ (arrOf st) lo n)
  (q:∀k e st',SG kd a₀ st'->Mv lo (lo+m) st st'->n<=k->k<=m->Dn κ (arrOf st') lo k->e+1<=k->(∀i,lo+k-(e+1)<=i->i<lo+k->KK κ (arrOf st') i=KK κ (arrOf st') (lo+k-1))->Q (none,k,e) st'):wpS (model prog w) A E s (zfr lo n m) Q st:=by
 unfold zfr;refine wpS_forRange (I:=λx c st'=>∃e,c=(none,x,e)/\SG kd a₀ st'/\Mv lo (lo+m) st st'/\Dn κ (arrOf st') lo x/\e+1<=x/\(∀i,lo+x-(e+1)<=i->i<lo+x->KK κ (arrOf st') i=KK κ (arrOf st') (lo+x-1))) (λx c st' hx1 hx2 h=>?_) (λc st' h=>?_) ⟨0,rfl,g,Mv.refl _ _ _,hd,by omega,λi a b=>by rw[show i=lo+n-1 by omega]⟩
 ·obtain⟨e,rfl,g',mv,hx,he,heq⟩:=h;dsimp only;refine wpS_bind (zc3 L g' h0 (by omega) (by omega) ?_)
  cases cb:κ.blt (KK κ (arrOf st') (lo+x)) (KK κ (arrOf st') (lo+x-1)) with
  |true=>
   dsimp only;rw[if_pos rfl]
   by_cases ce:e > 0
   ·rw[if_pos ce];refine wpS_bind (zj0 (wpS_pure ?_));have sz:lo+x<=(arrOf st').size:=by rw[g'.sz];omega
    have kf:=zfs (κ:=κ) (xs:=arrOf st') (i:=lo+x-(e+1)) (j:=lo+x) sz heq;refine⟨0,rfl,g'.arr (mirror_perm _ _ _ _),mv.trans (j5 sz (by omega) (by omega)),?_,by omega,λi a b=>by rw[show i=lo+(x+1)-1 by omega]⟩;refine Dn.next (λi j a b d=>?_) (by omega) ?_
    ·show κ.kle (KK κ (mirror _ _ _ _) j) (KK κ (mirror _ _ _ _) i);rw[kf,kf];exact hx i j a b d
    ·show κ.kle (KK κ (mirror _ _ _ _) _) (KK κ (mirror _ _ _ _) _);rw[kf,kf];exact KeyOrd.kle_of_klt cb
   ·rw[if_neg ce];exact wpS_pure ⟨0,rfl,g',mv,hx.next (by omega) (KeyOrd.kle_of_klt cb),by omega,λi a b=>by rw[show i=lo+(x+1)-1 by omega]⟩
  |false=>
   dsimp only;rw[if_neg (by decide)];refine wpS_bind (zc3 L g' h0 (by omega) (by omega) ?_)
   cases cc:κ.blt (KK κ (arrOf st') (lo+x-1)) (KK κ (arrOf st') (lo+x)) with
   |true=>exact wpS_pure (q x e st' g' mv hx1 (by omega) hx he heq)
   |false=>
    have same:KK κ (arrOf st') (lo+x)=KK κ (arrOf st') (lo+x-1):=KeyOrd.kle_antisymm cc cb;refine wpS_pure ⟨e+1,rfl,g',mv,hx.next (by omega) cc,by omega,λi a b=>?_⟩;rw[show lo+(x+1)-1=lo+x by omega]
    by_cases ei:i=lo+x
    ·rw[ei]
    ·rw[heq i (by omega) (by omega),same]
 ·obtain⟨e,rfl,g',mv,hx,he,heq⟩:=h;rw[show max n m=m by omega]at *;exact q m e st' g' mv hnm (Nat.le_refl _) hx he heq
theorem zj1{st st0:SortSt}{lo n m:Nat}{Q:Option Nat->SortSt->Prop}(L:zbs prog w A s κ kd)(h0:KeysOf κ a₀)(g:SG kd a₀ st)(hm:lo+m<=a₀.size)(h1:1<=n)(hnm:n+1<=m)(hd:Dn κ (arrOf st) lo (n+1))(mv:Mv lo (lo+m) st0 st)
  (q:∀k st',SG kd a₀ st'->Mv lo (lo+m) st0 st'->1<=k->k<=m->Up κ (arrOf st') lo k->Q (some k) st'):wpS (model prog w) A E s (zg7 lo n m) Q st:=by
 unfold zg7;refine wpS_bind (wpS_lift (wpAny_rule ⟨rfl,?_⟩));refine wpS_bind (zwh L h0 g hm (by omega) hnm hd λk e st' g' mv' k1 k2 hk he heq=>?_);dsimp only
 by_cases ce:e > 0
 ·rw[if_pos ce];have sz:lo+k<=(arrOf st').size:=by rw[g'.sz];omega
  have kf:=zfs (κ:=κ) (xs:=arrOf st') (i:=lo+k-(e+1)) (j:=lo+k) sz heq;refine wpS_bind (zj0 (zq6 L h0 (g'.arr (mirror_perm _ _ _ _)) hm (by omega) k2 (λi j a b d=>?_) ((mv.trans mv').trans (j5 sz (by omega) (by omega))) q));show κ.kle (KK κ (mirror _ _ _ _) j) (KK κ (mirror _ _ _ _) i);rw[kf,kf];exact hk i j a b d
 ·rw[if_neg ce];exact zq6 L h0 g' hm (by omega) k2 hk (mv.trans mv') q
theorem zio{st:SortSt}{lo m:Nat}{Q:Option Nat->SortSt->Prop}(L:zbs prog w A s κ kd)(h0:KeysOf κ a₀)(g:SG kd a₀ st)(hm:lo+m<=a₀.size)(h1:1<=m)
  (q:∀k st',SG kd a₀ st'->Mv lo (lo+m) st st'->1<=k->k<=m->Up κ (arrOf st') lo k->Q (some k) st'):wpS (model prog w) A E s (countRun' lo m) Q st:=by
 rw[zb7];refine wpS_bind (zvd L h0 g hm (Nat.le_refl _) (λi j a b c=>by rw[show i=j by omega];exact KeyOrd.kle_refl _) h1 λn n1 n2 hn hz=>?_);dsimp only
 by_cases e:n=m
 ·rw[if_pos (by simpa using e)];exact wpS_pure (q n st g (Mv.refl _ _ _) n1 n2 hn)
 ·rw[if_neg (by simpa using e)];have down:=hz.resolve_left e
  by_cases e1:n > 1
  ·rw[if_pos e1];refine wpS_bind (zc3 L g h0 (by omega) (by omega) ?_)
   cases cb:κ.blt (KK κ (arrOf st) lo) (KK κ (arrOf st) (lo+n-1)) with
   |true=>exact wpS_pure (q n st g (Mv.refl _ _ _) n1 n2 hn)
   |false=>
    dsimp only;rw[if_neg (by decide)];have all:∀k,lo<=k->k<lo+n->KK κ (arrOf st) k=KK κ (arrOf st) (lo+n-1):=λk a b=>
     KeyOrd.kle_antisymm (hn k (lo+n-1) a (by omega) (by omega)) (KeyOrd.kle_trans cb (hn lo k (Nat.le_refl _) a b))
    have sz:lo+n<=(arrOf st).size:=by rw[g.sz];omega
    have kf:=zfs (κ:=κ) (xs:=arrOf st) (i:=lo) (j:=lo+n) sz all;refine wpS_bind (zj0 (zj1 L h0 (g.arr (mirror_perm _ _ _ _)) hm n1 (by omega) (Dn.next (λi j a b d=>?_) n1 ?_) (j5 sz (Nat.le_refl _) (by omega)) q))
    ·show κ.kle (KK κ (mirror _ _ _ _) j) (KK κ (mirror _ _ _ _) i);rw[kf,kf,all j (by omega) d,all i a (by omega)];exact KeyOrd.kle_refl _
    ·show κ.kle (KK κ (mirror _ _ _ _) _) (KK κ (mirror _ _ _ _) _);rw[kf,kf];exact KeyOrd.kle_of_klt down
  ·rw[if_neg e1];refine zj1 L h0 g hm n1 (by omega) (Dn.next (λi j a b d=>by rw[show i=j by omega];exact KeyOrd.kle_refl _) n1 (KeyOrd.kle_of_klt down)) (Mv.refl _ _ _) q
theorem zn3{st:SortSt}{lo n ok:Nat}{Q:Bool->SortSt->Prop}(L:zbs prog w A s κ kd)(h0:KeysOf κ a₀)(g:SG kd a₀ st)(hn:lo+n<=a₀.size)(hok:ok<=n)(hu:Up κ (arrOf st) lo ok)
  (q:∀st',SG kd a₀ st'->Mv lo (lo+n) st st'->Up κ (arrOf st') lo n->Q true st'):wpS (model prog w) A E s (binarySort' lo n ok) Q st:=by
 rw[binarySort'_eq];refine wpS_bind (wpS_mono (wpS_forRange (I:=λk c st'=>c=(none,())/\SG kd a₀ st'/\Mv lo (lo+n) st st'/\Up κ (arrOf st') lo (min k n))
  (Q:=λc st'=>c=(none,())/\SG kd a₀ st'/\Mv lo (lo+n) st st'/\Up κ (arrOf st') lo n) (λk c st' hk1 hk2 h=>?_) (λc st' h=>?_) ⟨rfl,g,Mv.refl _ _ _,λi j a b d=>?_⟩) (λc st' h=>?_))
 ·obtain⟨rfl,g',mv,hs⟩:=h;rw[show min k n=k by omega]at hs
  refine wpS_bind (wpS_mono (wpS_forRange (I:=λx c z=>z=st'/\∃l r,c=(none,l,r)/\l<=r/\r<=k/\r-l<=k-x/\(∀i,lo<=i->i<lo+l->κ.kle (KK κ (arrOf st') i) (KK κ (arrOf st') (lo+k)))/\(∀i,lo+r<=i->i<lo+k->κ.klt (KK κ (arrOf st') (lo+k)) (KK κ (arrOf st') i)))
   (Q:=λc z=>z=st'/\∃l r,c=(none,l,r)/\l<=k/\(∀i,lo<=i->i<lo+l->κ.kle (KK κ (arrOf st') i) (KK κ (arrOf st') (lo+k)))/\(∀i,lo+l<=i->i<lo+k->κ.klt (KK κ (arrOf st') (lo+k)) (KK κ (arrOf st') i)))
   (λx c z hx1 hx2 h=>?_) (λc z h=>?_) ⟨rfl,0,k,rfl,by omega,by omega,by omega,λi a b=>by omega,λi a b=>by omega⟩) (λc z h=>?_))
  ·obtain⟨rfl,l,r,rfl,p1,p2,p3,p4,p5⟩:=h;dsimp only
   by_cases e:l ≥ r
   ·rw[if_pos e];have:l=r:=by omega
    subst this;exact wpS_pure ⟨rfl,l,l,rfl,p2,p4,p5⟩
   ·rw[if_neg e];refine wpS_bind (zc3 L g' h0 (by omega) (by omega) ?_)
    cases cb:κ.blt (KK κ (arrOf z) (lo+k)) (KK κ (arrOf z) (lo+(l+r) / 2)) with
    |true=>exact wpS_pure ⟨rfl,l,(l+r) / 2,rfl,by omega,by omega,by omega,p4,λi a b=>KeyOrd.klt_of_klt_of_kle cb (hs _ _ (by omega) a (by omega))⟩
    |false=>exact wpS_pure ⟨rfl,(l+r) / 2+1,r,rfl,by omega,by omega,by omega,λi a b=>KeyOrd.kle_trans (hs i (lo+(l+r) / 2) a (by omega) (by omega)) cb,p5⟩
  ·obtain⟨rfl,l,r,rfl,p1,p2,p3,p4,p5⟩:=h;have:l=r:=by omega
   subst this;exact⟨rfl,l,l,rfl,p2,p4,p5⟩
  ·obtain⟨rfl,l,r,rfl,p2,p4,p5⟩:=h;show wpS _ _ _ _ (do moveDown' (lo+k) (lo+l);pure (ForInStep.yield (none,()))) _ _;rw[moveDown'_eq];have sz:lo+k<(arrOf z).size:=by rw[g'.sz];omega
   refine wpS_bind (wpS_modify (wpS_pure ⟨rfl,g'.arr (bubble_perm _ _ _),mv.trans ⟨λi hi=>?_,rfl⟩,?_⟩))
   ·show(bubble (arrOf z) (lo+k) (lo+k-(lo+l)))[i]?=_;rw[getElem?_bubble sz _ (by omega),if_neg (by omega),if_neg (by omega)]
   ·rw[show min (k+1) n=k+1 by omega];intro i j a b d;show κ.kle (KK κ (bubble (arrOf z) (lo+k) (lo+k-(lo+l))) i) (KK κ (bubble (arrOf z) (lo+k) (lo+k-(lo+l))) j);rw[KK_bubble sz (by omega),KK_bubble sz (by omega),show lo+k-(lo+k-(lo+l))=lo+l by omega]
    repeat' split
    all_goals first
     |(exfalso;omega)
     |exact KeyOrd.kle_refl _
     |exact p4 _ (by omega) (by omega)
     |exact KeyOrd.kle_of_klt (p5 _ (by omega) (by omega))
     |exact hs _ _ (by omega) (by omega) (by omega)
 ·obtain⟨h1,h2,h3,h4⟩:=h;rw[show min (max (max ok 1) n) n=n by omega]at h4;exact⟨h1,h2,h3,h4⟩
 ·by_cases e:ok=0
  ·rw[show i=j by omega];exact KeyOrd.kle_refl _
  ·exact hu i j a b (by omega)
 ·obtain⟨rfl,h2,h3,h4⟩:=h;exact wpS_pure (q st' h2 h3 h4)
end
end SQ
namespace SQ
open PySem PyProof.Rows
set_option autoImplicit false
section
variable {prog:Program}{w:World}{A:Around}{E:Value->Shared->Prop}{s:Shared}{κ:KeyKind}{kd:SortKind}
end
end SQ
namespace SQ
open PySem PyProof.Rows
set_option autoImplicit false
def kk(κ:KeyKind)(p:Keyed):κ.α:=(κ.keyOf p.1).getD κ.dflt
def le(κ:KeyKind)(x y:Keyed):Prop:=κ.kle (kk κ x) (kk κ y)
theorem le_refl{κ:KeyKind}(x:Keyed):le κ x x:=KeyOrd.kle_refl _
theorem le_trans{κ:KeyKind}{x y z:Keyed}(a:le κ x y)(b:le κ y z):le κ x z:=KeyOrd.kle_trans a b
def AllK(κ:KeyKind)(xs:Array Keyed):Prop:=∀p∈xs.toList,κ.keyOf p.1=some (kk κ p)
abbrev Srt(κ:KeyKind)(xs:Array Keyed):Prop:=xs.toList.Pairwise (le κ)
theorem Srt.at{κ:KeyKind}{xs:Array Keyed}(h:Srt κ xs){i j:Nat}{p r:Keyed}(hij:i<=j)(e1:xs[i]?=some p)(e2:xs[j]?=some r):le κ p r:=by
 obtain⟨l1,rfl⟩:=Array.getElem?_eq_some_iff.mp e1;obtain⟨l2,rfl⟩:=Array.getElem?_eq_some_iff.mp e2
 by_cases c:i=j
 ·subst c;exact le_refl _
 ·have:=List.pairwise_iff_getElem.mp h i j (by simpa using l1) (by simpa using l2) (by omega);simpa using this
structure MI(κ:KeyKind)(a b out:Array Keyed)(ia ib:Nat):Prop where
 perm:out.toList.Perm (a.toList.take ia++b.toList.take ib)
 sort:out.toList.Pairwise (le κ)
 la:∀x∈out.toList,∀y∈a.toList.drop ia,le κ x y
 lb:∀x∈out.toList,∀y∈b.toList.drop ib,le κ x y
theorem zld{α:Type}{xs:List α}{i:Nat}{p:α}(e:xs[i]?=some p):xs.drop i=p::xs.drop (i+1):=by
 obtain⟨l,rfl⟩:=List.getElem?_eq_some_iff.mp e;exact List.drop_eq_getElem_cons l
section
variable {κ:KeyKind}{a b out:Array Keyed}{ia ib:Nat}
theorem zve{xs:Array Keyed}{i:Nat}{p:Keyed}(e:xs[i]?=some p):xs.toList[i]?=some p:=by simpa using e
theorem Srt.rest{xs:Array Keyed}(h:Srt κ xs){i:Nat}{p:Keyed}(e:xs[i]?=some p):∀y∈xs.toList.drop i,le κ p y:=by
 have h2:=h.drop (i:=i);rw[zld (zve e)]at h2 ⊢;intro y hy;rcases List.mem_cons.mp hy with rfl|hy
 ·exact le_refl _
 ·exact(List.pairwise_cons.mp h2).1 y hy
def Mg(κ:KeyKind)(a b r:Array Keyed):Prop:=r.toList.Perm (a.toList++b.toList)/\r.toList.Pairwise (le κ)
theorem za4(xs:Array Keyed)(i:Nat):(xs.extract i xs.size).toList=xs.toList.drop i:=by
 rw[Array.toList_extract,List.extract_eq_take_drop,List.take_of_length_le (by simp)]
theorem zn4{α:Type}{o x y u v:List α}(h:o.Perm (x++y)):(o++u++v).Perm ((x++u)++(y++v)):=by
 refine((h.append_right u).append_right v).trans ?_;rw[List.append_assoc,List.append_assoc,List.append_assoc x u];refine List.Perm.append_left x ?_;rw[<-List.append_assoc,<-List.append_assoc];exact List.Perm.append_right v List.perm_append_comm
theorem MI.fin(m:MI κ a b out ia ib)(sa:Srt κ a)(sb:Srt κ b)(h:a.size<=ia\/b.size<=ib):Mg κ a b (out++a.extract ia a.size++b.extract ib b.size):=by
 refine⟨?_,?_⟩
 ·rw[Array.toList_append,Array.toList_append,za4,za4];have:=zn4 (u:=a.toList.drop ia) (v:=b.toList.drop ib) m.perm
  rwa [List.take_append_drop,List.take_append_drop]at this
 ·rw[Array.toList_append,Array.toList_append,za4,za4];rcases h with h|h
  ·rw[List.drop_eq_nil_of_le (by simpa using h:a.toList.length<=ia),List.append_nil];exact List.pairwise_append.mpr ⟨m.sort,sb.drop,m.lb⟩
  ·rw[List.drop_eq_nil_of_le (by simpa using h:b.toList.length<=ib),List.append_nil];exact List.pairwise_append.mpr ⟨m.sort,sa.drop,m.la⟩
end
structure Gm(st st':SortSt):Prop where
 k:kindOf st'=kindOf st
 a:arrOf st'=arrOf st
 p:pendingOf st'=pendingOf st
 f:failedOf st'=failedOf st
theorem Gm.trans{x y z:SortSt}(h:Gm x y)(g:Gm y z):Gm x z:=⟨g.k.trans h.k,g.a.trans h.a,g.p.trans h.p,g.f.trans h.f⟩
section
variable {prog:Program}{w:World}{A:Around}{E:Value->Shared->Prop}{s:Shared}{κ:KeyKind}{kd:SortKind}
end
end SQ
namespace SQ
open PySem PyProof.Rows
set_option autoImplicit false
section
variable {prog:Program}{w:World}{A:Around}{E:Value->Shared->Prop}{s:Shared}{κ:KeyKind}{kd:SortKind}
theorem zft{α:Type}{c:Prop}[Decidable c]{x y:StateT SortSt Sem α}{Q:α->SortSt->Prop}{st:SortSt}{M:Model}(h1:c->wpS M A E s x Q st)(h2:¬ c->wpS M A E s y Q st):wpS M A E s (if c then x else y) Q st:=by
 by_cases h:c
 ·rw[if_pos h];exact h1 h
 ·rw[if_neg h];exact h2 h
theorem st5{α β γ δ ε C:Type}{lo hi:Nat}{z:SortSt}{F:α->β->γ->δ->ε->C}{P:Nat->α->β->γ->δ->ε->Prop}{G:Nat->C->SortSt->Prop}(h:∀x,lo<=x->x<hi->∀a b c d e,P x a b c d e->G x (F a b c d e) z):∀x c z',lo<=x->x<hi->(z=z'/\∃a b i d e,c=F a b i d e/\P x a b i d e)->G x c z':=by
 intro x c z' h1 h2 e;obtain⟨rfl,a,b,i,d,e,rfl,p⟩:=e;exact h x h1 h2 a b i d e p
end
end SQ
namespace SQ
open PySem PyProof.Rows
set_option autoImplicit false
structure MH(κ:KeyKind)(a b out:Array Keyed)(na nb:Nat):Prop where
 perm:out.toList.reverse.Perm (a.toList.drop na++b.toList.drop nb)
 sort:out.toList.reverse.Pairwise (le κ)
 la:∀x∈a.toList.take na,∀y∈out.toList.reverse,le κ x y
 lb:∀x∈b.toList.take nb,∀y∈out.toList.reverse,le κ x y
section
variable {κ:KeyKind}{a b out:Array Keyed}{na nb:Nat}
theorem vh(xs:Array Keyed)(n:Nat):(xs.extract 0 n).toList=xs.toList.take n:=by
 rw[Array.toList_extract,List.extract_eq_take_drop,List.drop_zero,Nat.sub_zero]
theorem zj2{α:Type}{o x y u v:List α}(h:o.Perm (x++y)):(u++v++o).Perm ((u++x)++(v++y)):=by
 refine(List.Perm.append_left _ h).trans ?_;rw[List.append_assoc,List.append_assoc u x];refine List.Perm.append_left u ?_;rw[<-List.append_assoc,<-List.append_assoc];exact List.Perm.append_right y List.perm_append_comm
theorem MH.fin(m:MH κ a b out na nb)(sa:Srt κ a)(sb:Srt κ b)(h:na=0\/nb=0):Mg κ a b (a.extract 0 na++b.extract 0 nb++out.reverse):=by
 refine⟨?_,?_⟩
 ·rw[Array.toList_append,Array.toList_append,vh,vh,Array.toList_reverse];have:=zj2 (u:=a.toList.take na) (v:=b.toList.take nb) m.perm
  rwa [List.take_append_drop,List.take_append_drop]at this
 ·rw[Array.toList_append,Array.toList_append,vh,vh,Array.toList_reverse];rcases h with rfl|rfl
  ·rw[List.take_zero,List.nil_append];exact List.pairwise_append.mpr ⟨sb.take,m.sort,m.lb⟩
  ·rw[List.take_zero,List.append_nil];exact List.pairwise_append.mpr ⟨sa.take,m.sort,m.la⟩
theorem MH.first(m:MH κ a b out na nb)(sa:Srt κ a)(sb:Srt κ b)(h:∀x∈b.toList.take nb,∀y∈a.toList,le κ x y):Mg κ a b (b.extract 0 nb++a.extract 0 na++out.reverse):=by
 refine⟨?_,?_⟩
 ·rw[Array.toList_append,Array.toList_append,vh,vh,Array.toList_reverse];have:=zj2 (u:=b.toList.take nb) (v:=a.toList.take na) (m.perm.trans List.perm_append_comm);rw[List.take_append_drop,List.take_append_drop]at this;exact this.trans List.perm_append_comm
 ·rw[Array.toList_append,Array.toList_append,vh,vh,Array.toList_reverse];refine List.pairwise_append.mpr ⟨List.pairwise_append.mpr ⟨sb.take,sa.take,λx hx y hy=>h x hx y (List.mem_of_mem_take hy)⟩,m.sort,λx hx y hy=>?_⟩;rcases List.mem_append.mp hx with hx|hx
  ·exact m.lb x hx y hy
  ·exact m.la x hx y hy
end
section
variable {prog:Program}{w:World}{A:Around}{E:Value->Shared->Prop}{s:Shared}{κ:KeyKind}{kd:SortKind}
end
end SQ
namespace SQ
open PySem PyProof.Rows
set_option autoImplicit false
section
variable {prog:Program}{w:World}{A:Around}{E:Value->Shared->Prop}{s:Shared}{κ:KeyKind}{kd:SortKind}{a₀:Array Keyed}
theorem AllK.of{xs:Array Keyed}(h:∀p∈xs.toList,∃a,κ.keyOf p.1=some a):AllK κ xs:=λp hp=>by
 obtain⟨a,e⟩:=h p hp;unfold kk;rw[e];rfl
end
end SQ
namespace SQ
open PySem PyProof.Rows
set_option autoImplicit false
section
variable {prog:Program}{w:World}{A:Around}{E:Value->Shared->Prop}{s:Shared}{κ:KeyKind}{kd:SortKind}{a₀:Array Keyed}
end
end SQ
namespace SQ
open PySem PyProof.Rows
set_option autoImplicit false
def Cov(κ:KeyKind)(xs:Array Keyed):Nat->List (Nat×Nat×Nat)->Nat->Prop
 |at_,[],hi=>at_=hi
 |at_,(b,n,_)::r,hi=>b=at_/\1<=n/\Up κ xs at_ n/\Cov κ xs (at_+n) r hi
section
variable {κ:KeyKind}
theorem Cov.le{xs:Array Keyed}:∀{l:List (Nat×Nat×Nat)}{at_ hi:Nat},Cov κ xs at_ l hi->at_+l.length<=hi
 |[],at_,hi,h=>by have:at_=hi:=h;simp;omega
 |(b,n,p)::r,at_,hi,h=>by
  obtain⟨_,h1,_,h2⟩:=h;have:=h2.le;simp only[List.length_cons];omega
theorem Cov.push{xs:Array Keyed}{n pw:Nat}:∀{l:List (Nat×Nat×Nat)}{at_ hi:Nat},Cov κ xs at_ l hi->1<=n->Up κ xs hi n->Cov κ xs at_ (l ++ [(hi,n,pw)]) (hi+n)
 |[],at_,hi,h,hn,u=>by
  have e:at_=hi:=h;subst e;exact⟨rfl,hn,u,rfl⟩
 |(b,m,p)::r,at_,hi,h,hn,u=>⟨h.1,h.2.1,h.2.2.1,h.2.2.2.push hn u⟩
end
section
variable {prog:Program}{w:World}{A:Around}{E:Value->Shared->Prop}{s:Shared}{κ:KeyKind}{kd:SortKind}{a₀:Array Keyed}
end
end SQ
namespace SQ
open PySem PyProof.Rows
set_option autoImplicit false
section
variable {prog:Program}{w:World}{A:Around}{E:Value->Shared->Prop}{s:Shared}
theorem zle{Q:List Value->Shared->Prop}{l:Addr}{T:String}{o:Obj}{xs:Array Value}{n:Nat}(hT:T = "list" \/ T = "tuple")(ho:s.heap.get? l=some o)(hc:o.cls=.type T)(hd:o.data=.seq xs n)(hz:xs.size<=sizeLine)
  (q:Q xs.toList { s with heap:=(s.heap.push (seqObj "list" #[] 0)).update s.heap.objs.size (Obj.mapSeq (·++xs)) }):wpAny (model prog w) A (collect (.ref l)) Q E s:=by
 unfold collect;refine wpAny_bind (wpAny_runValue (codeAny_builtin PySem.F.entry_proto_collect ?_));rw[Around.under_plainId PySem.F.plain_proto_collect _];show wpAny _ A.in1 (newList [] >>= λz=>again (.builtin "list.__iadd__" ⟨[z,.ref l],[]⟩)) _ _ s;refine wpAny_bind (wpAny_newObj_type ?_);refine wpAny_pure ⟨plainId_quiet PySem.F.plain_list_iadd _,codeAny_builtin PySem.F.entry_list_iadd ?_⟩;rw[Around.under_plainId PySem.F.plain_list_iadd _];show wpAny _ A.in1 (Builtin.List.listExtendWith (.ref s.heap.objs.size) (.ref l) (.ref s.heap.objs.size)) _ _ _;have g1:(s.heap.push { cls:=.type "list",data:=.seq ([]:List Value).toArray }).get? s.heap.objs.size=some { cls:=.type "list",data:=.seq #[] 0 }:=Heap.get?_push_size _ rfl;have g2:=Heap.get?_update_self (Obj.mapSeq (·++xs)) g1 rfl;have fin:wpAny (model prog w) A (match Value.ref s.heap.objs.size with
   |Value.ref z=>do
    match (<-load z).data with
     |Data.seq ys _=>pure ys.toList
     |_=>unsupported "internal:collect"
   |_=>unsupported "internal:collect") Q E { s with heap:=(s.heap.push { cls:=.type "list",data:=.seq ([]:List Value).toArray }).update s.heap.objs.size (Obj.mapSeq (·++xs)) }:=by
  show wpAny _ A (load s.heap.objs.size >>= _) _ _ _;refine wpAny_bind (wpAny_load g2 (wpAny_pure ?_));show Q ((#[]:Array Value)++xs).toList _;rw[show((#[]:Array Value)++xs).toList=xs.toList by simp];exact q
 refine wpAny_mono (wpAny_extend_seq (hsz:=hz) (A:=A) (R:=λr s'=>r=.ok (.ret (.ref s.heap.objs.size))/\s' = { s with heap:=(s.heap.push { cls:=.type "list",data:=.seq ([]:List Value).toArray }).update s.heap.objs.size (Obj.mapSeq (·++xs)) })
  (s:={ s with heap:=s.heap.push { cls:=.type "list",data:=.seq ([]:List Value).toArray } }) _ l _ 0 hT g1 (Heap.get?_push_of_some _ ho) hc hd ⟨rfl,rfl⟩) (λf s' z=>?_) (λe s' z=>absurd z.1 (by simp))
 cases f with
 |done f=>
  obtain⟨e,rfl⟩:=z
  cases e;exact fin
 |again c'=>exact⟨z.1,codeAny_mono z.2 λr s2 y=>by obtain⟨rfl,rfl⟩:=y;exact fin⟩
theorem zpx(A:Around):A.in1.in1.units<=A.units+8:=by show A.units+1+1<=_;omega
end
end SQ
namespace SQ
open PySem PyProof.Rows
set_option autoImplicit false
@[reducible] def intK:KeyKind where
 α:=Int
 blt a b:=decide (a<b)
 irrefl a:=by simp
 trans a b c h1 h2:=by simp only[decide_eq_true_eq]at *;omega
 negTrans a b c h:=by simp only[decide_eq_true_eq]at *;omega
 total a b h1 h2:=by simp only[decide_eq_false_iff_not]at *;omega
 keyOf v:=match v with|.int i _=>some i|_=>none
 dflt:=0
theorem zpy{prog:Program}{w:World}{A:Around}{s:Shared}:zbs prog w A s intK oneType':=λE x y a b Q ha hb q=>by
 cases x <;> simp only[intK,reduceCtorEq,Option.some.injEq]at ha
 cases y <;> simp only[intK,reduceCtorEq,Option.some.injEq]at hb
 cases ha;cases hb;rw[keyLt'_oneType];exact oneLt_int q
def RefIs(h:Heap)(v:Value)(is:List Int):Prop:=∃a its,v=.ref a/\IsTup h a its/\IntsAre its.toList is
theorem IntsAre.same{vs:List Value}{ns ms:List Int}(h:IntsAre vs ns)(h':IntsAre vs ms):ns=ms:=by rw[<-h.nums,<-h'.nums]
theorem RefIs.uniq{h:Heap}{v:Value}{is js:List Int}(x:RefIs h v is)(y:RefIs h v js):is=js:=by
 obtain⟨a,its,rfl,⟨o,e,_,n,d⟩,i1⟩:=x;obtain⟨a',its',e',⟨o',e2,_,n',d'⟩,i2⟩:=y
 cases e';rw[e]at e2
 cases e2;rw[d]at d'
 cases d';exact IntsAre.same i1 i2
theorem RefIs.keep{h h':Heap}{v:Value}{is:List Int}(k:∀b o,h.get? b=some o->h'.get? b=some o)(x:RefIs h v is):RefIs h' v is:=by
 obtain⟨a,its,e,t,i⟩:=x;exact⟨a,its,e,t.keeps k,i⟩
open Classical in
noncomputable def kz (h:Heap) (v:Value):Option (List Int):=if x:∃is,RefIs h v is then some x.choose else none
theorem zb2{h:Heap}{v:Value}{is:List Int}(e:kz h v=some is):RefIs h v is:=by
 unfold kz at e
 split at e
 ·next x=>cases e;exact x.choose_spec
 ·cases e
theorem zbt{h:Heap}{v:Value}{is:List Int}(x:RefIs h v is):kz h v=some is:=by
 unfold kz;rw[dif_pos ⟨is,x⟩];rw[(Exists.choose_spec (p:=λis=>RefIs h v is) ⟨is,x⟩).uniq x]
@[reducible] noncomputable def zc6 (h:Heap):KeyKind where
 α:=List Int
 blt a b:=decide (a<b)
 irrefl a:=by simpa using List.lt_irrefl a
 trans a b c h1 h2:=by simp only[decide_eq_true_eq]at *;exact List.lt_trans h1 h2
 negTrans a b c h:=by
  simp only[decide_eq_true_eq]at *
  by_cases c:a<b
  ·exact .inl c
  ·exact .inr (List.lt_of_le_of_lt (List.not_lt.mp c) h)
 total a b h1 h2:=by simp only[decide_eq_false_iff_not]at *;exact List.le_antisymm (List.not_lt.mp h2) (List.not_lt.mp h1)
 keyOf v:=kz h v
 dflt:=[]
section
variable {prog:Program}{w:World}{A:Around}{E:Value->Shared->Prop}{s:Shared}
theorem ziq{a b:Int}{t u:Tok}{f:Bool}{Q:Bool->Shared->Prop}(h:Q (decide (a<b)) s):wpAny (model prog w) A (oneLt' f (.int a t) (.int b u)) Q E s:=by
 cases f with
 |true=>exact oneLt_int h
 |false=>
  rw[oneLt'_eq];rw[if_neg (by decide)];have:=CmpOf.ints_lt (prog:=prog) (w:=w) (A:=A) (P:=λi v=>(i=0/\v=.int a t)\/(i=1/\v=.int b u)) (λi=>if i=0 then a else b) (λi v hv=>by
   rcases hv with⟨rfl,rfl⟩ |⟨rfl,rfl⟩
   ·exact⟨t,rfl⟩
   ·exact⟨u,rfl⟩)
  exact wpAny_bind (this 0 1 _ _ s _ E (.inl ⟨rfl,rfl⟩) (.inr ⟨rfl,rfl⟩) (wpAny_truthy_bool h))
theorem zj3{f:Bool}:∀{xs ys:List Value}{as bs:List Int} (k:Nat) (Q:Option Bool×Unit->Shared->Prop),IntsAre xs as->IntsAre ys bs->(∀r,(r=none->as.take bs.length=bs.take as.length)->(∀b,r=some b->b=decide (as<bs))->Q (r,()) s) ->
  wpAny (model prog w) A (forIn ((xs.zip ys).zipIdx k) ((none,()):Option Bool×Unit) λx _=>match x with
   |((p,q),i)=>do
    let e <-eqBool p q
    if (!e)=true then do
     let r <-oneLt' (f && i == 0) p q
     pure (ForInStep.done (some r,()))
    else pure (ForInStep.yield (none,()))) Q E s
 |_,_,_,_,k,Q,.nil,h2,q=>by
  simp only[List.zip_nil_left,List.zipIdx_nil,List.forIn_nil];exact wpAny_pure (q none (λ_=>by simp) (λb e=>by cases e))
 |_,_,_,_,k,Q,.cons a t h1,.nil,q=>by
  simp only[List.zip_nil_right,List.zipIdx_nil,List.forIn_nil];exact wpAny_pure (q none (λ_=>by simp) (λb e=>by cases e))
 |_,_,_,_,k,Q,.cons (ns:=as) a t h1,.cons (ns:=bs) b u h2,q=>by
  simp only[List.zip_cons_cons,List.zipIdx_cons,List.forIn_cons];refine wpAny_bind ?_;refine wpAny_bind (wpAny_eqBool_int ?_)
  by_cases c:a=b
  ·subst c;rw[if_neg (by simp)];refine wpAny_pure (zj3 (k+1) Q h1 h2 λr r1 r2=>q r (λe=>?_) λd e=>?_)
   ·simp only[List.length_cons,List.take_succ_cons];rw[r1 e]
   ·rw[r2 d e];exact decide_eq_decide.mpr (by rw[List.cons_lt_cons_iff];simp)
  ·rw[if_pos (by simpa using c)];refine wpAny_bind (ziq (wpAny_pure (wpAny_pure (q _ (λe=>by cases e) λd e=>?_))))
   cases e;exact decide_eq_decide.mpr (by rw[List.cons_lt_cons_iff];simp[c])
theorem zet:∀{as bs:List Int},as.take bs.length=bs.take as.length->decide (as<bs)=decide (as.length<bs.length)
 |[],[],_=>by simp
 |[],b::bs,_=>by simp
 |a::as,[],_=>by simp
 |a::as,b::bs,h=>by
  simp only[List.length_cons,List.take_succ_cons,List.cons.injEq]at h;obtain⟨rfl,h⟩:=h;have:=zet h;rw[decide_eq_decide]at this ⊢;rw[List.cons_lt_cons_iff];simp only[Int.lt_irrefl,false_or,true_and,List.length_cons,this];omega
theorem zj4{h₀:Heap}{f:Bool}(k:∀b o,h₀.get? b=some o->s.heap.get? b=some o):zbs prog w A s (zc6 h₀) (tuples' f):=λE x y a b Q ha hb q=>by
 obtain⟨ra,ia,rfl,⟨oa,ga,_,na,da⟩,ta⟩:=(zb2 ha).keep k;obtain⟨rb,ib,rfl,⟨ob,gb,_,nb,db⟩,tb⟩:=(zb2 hb).keep k;refine wpAny_bind (listItems_at ga da (wpAny_bind (listItems_at gb db (wpAny_bind (zj3 0 _ ta tb λr r1 r2=>?_)))))
 cases r with
 |some d=>
  dsimp only
  cases r2 d rfl;exact wpAny_pure q
 |none=>
  dsimp only;refine wpAny_pure ?_;have:=zet (r1 rfl);rw[<-ta.length,<-tb.length]at this;rw[show decide (ia.size<ib.size)=(zc6 h₀).blt a b from ?_]
  ·exact q
  ·show _=decide (a<b);rw[this];simp
end
end SQ
namespace SQ
open PySem PyProof.Rows
set_option autoImplicit false
inductive All2{α β:Type}(R:α->β->Prop):List α->List β->Prop
 |nil:All2 R [] []
 |cons {a:α}{b:β}{as:List α}{bs:List β} (h:R a b) (t:All2 R as bs):All2 R (a::as) (b::bs)
theorem All2.len{α β:Type}{R:α->β->Prop}{as:List α}{bs:List β}(h:All2 R as bs):as.length=bs.length:=by
 induction h with
 |nil=>rfl
 |cons _ _ ih=>simp[ih]
theorem All2.imp{α β:Type}{R S:α->β->Prop}(f:∀a b,R a b->S a b){as:List α}{bs:List β}(h:All2 R as bs):All2 S as bs:=by
 induction h with
 |nil=>exact .nil
 |cons h _ ih=>exact .cons (f _ _ h) ih
theorem All2.mem{α β:Type}{R:α->β->Prop}{as:List α}{bs:List β}(h:All2 R as bs){a:α}(ha:a∈as):∃b∈bs,R a b:=by
 induction h with
 |nil=>cases ha
 |cons h _ ih=>
  rcases List.mem_cons.mp ha with rfl|ha
  ·exact⟨_,List.mem_cons_self,h⟩
  ·obtain⟨b,hb,r⟩:=ih ha;exact⟨b,List.mem_cons_of_mem _ hb,r⟩
section
variable {prog:Program}{w:World}{A:Around}{E:Value->Shared->Prop}{s:Shared}
theorem zlf{v:Value}{i:Int}{is:List Int}(h:RefIs s.heap v (i::is)):∃t,∀Q:Option Value->Shared->Prop,Q (some (.int i t)) s->wpAny (model prog w) A (firstOfTuple' v) Q E s:=by
 obtain⟨a,its,rfl,⟨o,g,c,n,d⟩,ii⟩:=h;obtain⟨t,rest,e⟩:∃t rest,its.toList=.int i t::rest:=by
  cases e:its.toList with
  |nil=>rw[e]at ii;cases ii
  |cons x r=>
   rw[e]at ii
   cases ii with
   |cons n t h=>exact⟨t,r,rfl⟩
 refine⟨t,λQ q=>wpAny_bind (wpAny_typeOf (T := "tuple") ⟨o,g,c⟩ ?_)⟩;rw[if_neg (by decide)];refine wpAny_bind (listItems_at g d (wpAny_pure ?_));have:its[0]?=some (.int i t):=by rw[<-Array.getElem?_toList,e];rfl
 rw[this];exact q
theorem zeu:∀{vs:List Value}{tss:List (List Int)},All2 (RefIs s.heap) vs tss->(∀t∈tss,t ≠ [])->∃(fs:List Value) (ns:List Int),IntsAre fs ns/\fs.length=vs.length/\∀Q:List (Option Value)->Shared->Prop,Q (fs.map some) s->wpAny (model prog w) A (vs.mapM firstOfTuple') Q E s
 |_,_,.nil,_=>⟨[],[],.nil,rfl,λQ q=>by rw[List.mapM_nil];exact wpAny_pure q⟩
 |_,_,.cons (b:=t) h r,hne=>by
  obtain⟨fs,ns,i1,l1,w1⟩:=zeu r λx hx=>hne x (List.mem_cons_of_mem _ hx)
  cases t with
  |nil=>exact absurd rfl (hne [] List.mem_cons_self)
  |cons i is=>
   obtain⟨t,w2⟩:=zlf (prog:=prog) (w:=w) (A:=A) (E:=E) h;refine⟨.int i t::fs,i::ns,.cons i t i1,by simp[l1],λQ q=>?_⟩;rw[List.mapM_cons];exact wpAny_bind (w2 _ (wpAny_bind (w1 _ (wpAny_pure q))))
theorem zev{vs:List Value}{tss:List (List Int)}{Q:SortKind->Shared->Prop}(h:All2 (RefIs s.heap) vs tss)(hne:∀t∈tss,t ≠ [])(h2:2<=vs.length)(q:Q (tuples' true) s):wpAny (model prog w) A (keyKind' vs.toArray) Q E s:=by
 obtain⟨fs,ns,i1,l1,w1⟩:=zeu (prog:=prog) (w:=w) (A:=A) (E:=E) h hne;rw[keyKind'_eq,List.mapM_toArray];simp only[map_eq_pure_bind,bind_assoc,pure_bind];refine wpAny_bind (w1 _ ?_);rw[if_pos (by simp)];refine wpAny_bind (m:=rule _) (wpAny_rule ?_);have ef:Array.filterMap id (List.map some fs).toArray=fs.toArray:=by simp
 rw[ef,oneTypeOnly'_eq,List.mapM_toArray,mapM_typeOf_ints i1];simp only[map_pure,pure_bind]
 cases fs with
 |nil=>simp at l1;omega
 |cons f fs=>
  have hall:((List.map (λ_=>Value.type "int") (f::fs)).toArray.all λx=>x == Value.type "int")=true:=by
   simp only[List.all_toArray,List.all_map,List.all_eq_true];intro _ _;rfl
  have g0:(List.map (λ_=>Value.type "int") (f::fs)).toArray[0]?=some (Value.type "int"):=by simp
  rw[g0];simp only[hall,if_true,pure_bind];exact wpAny_pure q
theorem za5{κ:KeyKind}{vs:List Value}(h:∀v∈vs,∃a,κ.keyOf v=some a):KeysOf κ (pairsOf vs):=λp hp=>by
 rw[pairsOf_toList]at hp;exact h _ (mem_zip_self hp).2
theorem zew{κ:KeyKind}{vs:List Value}{out:Array Keyed}(p:out.Perm (pairsOf vs))(so:SortedToK κ out (pairsOf vs).size)(hk:∀v∈vs,∃a,κ.keyOf v=some a):
  (out.map (·.2)).toList.Perm vs/\∃ks:List κ.α,All2 (λv k=>κ.keyOf v=some k) (out.map (·.2)).toList ks/\ks.Pairwise κ.kle:=by
 have pl:=Array.perm_iff_toList_perm.mp p;rw[pairsOf_toList]at pl;have diag:∀x∈out.toList,x.1=x.2/\x.1∈vs:=λx hx=>mem_zip_self (pl.mem_iff.mp hx);refine⟨?_,out.toList.map λx=>(κ.keyOf x.1).getD κ.dflt,?_,?_⟩
 ·rw[Array.toList_map];have:=pl.map (·.2)
  rwa [show(vs.zip vs).map (·.2)=vs by rw[List.map_snd_zip (Nat.le_refl _)]]at this
 ·rw[Array.toList_map];clear so p pl;generalize out.toList=l at diag
  induction l with
  |nil=>exact .nil
  |cons x l ih=>
   refine .cons ?_ (ih λy hy=>diag y (List.mem_cons_of_mem _ hy));obtain⟨e,m⟩:=diag x List.mem_cons_self;obtain⟨a,ea⟩:=hk _ m;show κ.keyOf x.2=some ((κ.keyOf x.1).getD κ.dflt);rw[<-e,ea];rfl
 ·rw[List.pairwise_map,List.pairwise_iff_getElem];intro i j h1 h2 hij;have h1':i<out.size:=by simpa using h1
  have h2':j<out.size:=by simpa using h2
  have:=so i j (Nat.le_of_lt hij) (by rw[<-p.size_eq];exact h2');unfold KK at this;rw[Array.getElem?_eq_getElem h1',Array.getElem?_eq_getElem h2']at this;simpa using this
end
end SQ
namespace L2
open PySem PySem.Spec PyProof.Rows SQ
def ji(ns:List Int):List Int:=ns.mergeSort (λa b=>decide (a<=b))
def zj5(tss:List (List Int)):List (List Int):=tss.mergeSort (λa b=>!decide (b<a))
def tD(is:List Int):D:=.tuple (is.map PyData.int)
theorem zap(ns:List Int):(ji ns).Perm ns:=List.mergeSort_perm _ _
theorem zn5(ns:List Int):(ji ns).Pairwise (· <= ·):=by
 have:=List.pairwise_mergeSort (le:=λa b:Int=>decide (a<=b)) (λa b c h1 h2=>by simp at *;omega) (λa b=>by simp;omega) ns;exact this.imp λh=>by simpa using h
theorem zaq{ms ns:List Int}(p:ms.Perm ns)(h:ms.Pairwise (· <= ·)):ms=ji ns:=(p.trans (zap ns).symm).eq_of_pairwise (λa b _ _ h3 h4=>Int.le_antisymm h3 h4) h (zn5 ns)
theorem zir(tss:List (List Int)):(zj5 tss).Perm tss:=List.mergeSort_perm _ _
theorem zlg{a b c:List Int}(h1:¬ b<a)(h2:¬ c<b):¬ c<a:=λh=>h1 (List.lt_of_le_of_lt (List.not_lt.mp h2) h)
theorem zn6(tss:List (List Int)):(zj5 tss).Pairwise λa b=>¬ b<a:=by
 have:=List.pairwise_mergeSort (le:=λa b:List Int=>!decide (b<a)) (λa b c h1 h2=>by
  simp only[Bool.not_eq_true',decide_eq_false_iff_not]at *;exact zlg h1 h2) (λa b=>by
  simp only[Bool.or_eq_true,Bool.not_eq_true',decide_eq_false_iff_not]
  by_cases c:b<a
  ·exact .inr λz=>List.lt_irrefl _ (List.lt_trans z c)
  ·exact .inl c) tss
 exact this.imp λh=>by simpa using h
theorem zis{ss tss:List (List Int)}(p:ss.Perm tss)(h:ss.Pairwise λa b=>¬ b<a):ss=zj5 tss:=(p.trans (zir tss).symm).eq_of_pairwise (λa b _ _ h3 h4=>List.le_antisymm (List.not_lt.mp h3) (List.not_lt.mp h4)) h (zn6 tss)
def zfu(xs:List D)(Q:List D->Prop):Prop:=(∃ns:List Int,xs=ns.map PyData.int/\Q ((ji ns).map PyData.int))\/∃tss:List (List Int),xs=tss.map tD/\(∀t∈tss,t ≠ [])/\Q ((zj5 tss).map tD)
theorem zex{K:PySem.W.Frag}{H:Hp}{us us':List Value}(p:us'.Perm us):∀{vs:List V}{ds:List D},Vals vs us->Reps K H ds vs->∃vs' ds',Vals vs' us'/\Reps K H ds' vs'/\ds'.Perm ds:=by
 induction p with
 |nil=>intro vs ds r rp;exact⟨vs,ds,r,rp,.refl _⟩
 |cons u p ih=>
  intro vs ds r rp
  cases r with
  |cons r1 r2=>
   cases rp with
   |cons q1 q2=>
    obtain⟨vs',ds',a1,a2,a3⟩:=ih r2 q2;exact⟨_,_,.cons r1 a1,.cons q1 a2,a3.cons _⟩
 |swap u v l=>
  intro vs ds r rp
  cases r with
  |cons r1 r2=>
   cases r2 with
   |cons r3 r4=>
    cases rp with
    |cons q1 q2=>
     cases q2 with
     |cons q3 q4=>exact⟨_,_,.cons r3 (.cons r1 r4),.cons q3 (.cons q1 q4),.swap _ _ _⟩
 |trans p1 p2 ih1 ih2=>
  intro vs ds r rp;obtain⟨vs1,ds1,a1,a2,a3⟩:=ih2 r rp;obtain⟨vs2,ds2,b1,b2,b3⟩:=ih1 a1 a2;exact⟨vs2,ds2,b1,b2,b3.trans a3⟩
section
variable {X:Cx}
theorem za6{pins:List (Addr×Obj)}{σ:St}{H:Hp}{s:Shared}(I:Inv X pins σ H s):∀{tss:List (List Int)}{vs:List V}{us:List Value},Reps X.K H (tss.map tD) vs->Vals vs us->All2 (RefIs s.heap) us tss
 |[],_,_,.nil,.nil=>.nil
 |t::tss,_,_,.cons r rs,.cons q qs=>by
  refine .cons ?_ (za6 I rs qs)
  cases r with
  |tup h r=>
   cases q;have:=Reps.of_ints r;subst this;obtain⟨its,rv,ht,_⟩:=I.tuple h;exact⟨_,its.toArray,rfl,ht,by simpa using qa rv⟩
theorem zg8{α:Type}{f:α->D}(g:D->α)(hg:∀a,g (f a)=a){ds:List D}{as:List α}(p:ds.Perm (as.map f)):∃bs:List α,ds=bs.map f/\bs.Perm as:=by
 have:∀d∈ds,∃a,d=f a/\True:=λd hd=>by
  obtain⟨a,_,e⟩:=List.mem_map.mp (p.mem_iff.mp hd);exact⟨a,e.symm,trivial⟩
 obtain⟨bs,e,_⟩:=zfq this;subst e;refine⟨bs,rfl,?_⟩;have z:∀l:List α,(l.map f).map g=l:=λl=>by rw[List.map_map];exact(List.map_congr_left λa _=>hg a).trans (List.map_id _)
 have:=p.map g
 rwa [z,z]at this
def deI:D->Int
 |.int i=>i
 |_=>0
def deT:D->List Int
 |.tuple xs=>xs.map deI
 |_=>[]
theorem zpz(i:Int):deI (.int i)=i:=rfl
theorem ztf(is:List Int):deT (tD is)=is:=by
 show(is.map PyData.int).map deI=is;rw[List.map_map];exact(List.map_congr_left λa _=>rfl).trans (List.map_id _)
end
end L2
namespace L2
open PySem PySem.Spec PyProof.Rows
namespace RV
theorem zwi:Manifest.owners.lookup (String.ofList ['d','e','s','r','e','v','e','r'].reverse)=some Manifest.sig_reversed:=by kernel_rfl
theorem sNext:Slot "reversed" "__next__" "reversed.__next__" := .of (owner := "reversed") (n := "__next__") (by rw[typeLookup_type,builtinLookup_eq_fast];kernel_rfl) (by decide +kernel) (by decide +kernel) (by decide +kernel) (by first|exact .inl (by decide +kernel)|exact .inr (by decide +kernel)) (by rw[isSubtype_type];kernel_rfl)
theorem zq8:Slot "reversed" "__iter__" "reversed.__iter__" := .of (owner := "reversed") (n := "__iter__") (by rw[typeLookup_type,builtinLookup_eq_fast];kernel_rfl) (by decide +kernel) (by decide +kernel) (by decide +kernel) (by first|exact .inl (by decide +kernel)|exact .inr (by decide +kernel)) (by rw[isSubtype_type];kernel_rfl)
theorem zvf(a:Value):argsOk "reversed.__iter__" ⟨[a],[]⟩:=by
 unfold argsOk;rw[signature?_of (id := "reversed.__iter__") (n:=['_','_','r','e','t','i','_','_']) (o:=['d','e','s','r','e','v','e','r']) (by kernel_rfl) zwi];kernel_rfl
theorem zvg:entryFor table "reversed.__iter__" = some Builtin.«dict_keyiterator.__iter__»:=entryFor_alias (id' := "dict_keyiterator.__iter__") (by kernel_rfl) (by first|rfl|decide +kernel |(unfold String.splitOn;simp +decide [String.splitOnAux])) (by decide +kernel) (by kernel_rfl)
end RV
namespace RV
def ob(l:Addr)(i:Int):Obj:={ cls:=.type "reversed",data:=.fields #[.ref l,rawInt i] }
def Is(h:Heap)(a l:Addr)(i:Int):Prop:=∃o,h.get? a=some o/\o.cls=.type "reversed" /\ o.data=.fields #[.ref l,rawInt i]
theorem Is.typeIs{s:Shared}{a l:Addr}{i:Int}(x:Is s.heap a l i):s.TypeIs (.ref a) "reversed" := let ⟨o,ho,hc,_⟩:=x;⟨o,ho,hc⟩
theorem Is.at{h h':Heap}{a l:Addr}{i:Int}(x:Is h a l i)(e:∀o,h.get? a=some o->h'.get? a=some o):Is h' a l i:=let ⟨o,ho,r⟩:=x;⟨o,e _ ho,r⟩
section
variable {prog:Program}{w:World}{A:Around}{E:Value->Shared->Prop}{s:Shared}
theorem iter{it l:Addr}{i:Int}{Q:Value->Shared->Prop}(hit:Is s.heap it l i)(h:Q (.ref it) s):wpAny (model prog w) A (pyIter (.ref it)) Q E s:=by
 refine wpAny_pyIter_slot hit.typeIs zq8 (wpAny_call_entry zq8 hit.typeIs zvg ?_ (zvf _));show wpAny _ _ (ret (.ref it)) _ _ s;exact wpAny_pure ⟨_,rfl, "reversed",_,hit.typeIs,sNext.lookup,h⟩
end
end RV
section
variable {X:Cx}{tg a:Expr}{t:DTF}{p pos:Pos}
end
theorem zey:∀(l:List Value) (k:Nat),(∀(j:Nat) v,l[j]?=some v->∃t,v=.int ((k+j:Nat):Int) t)->Vals ((List.range' k l.length).map λi:Nat=>V.int i) l
 |[],_,_=>.nil
 |v::l,k,h=>by
  rw[List.length_cons,List.range'_succ];refine .cons ?_ (zey l (k+1) λj v hv=>?_)
  ·exact h 0 v rfl
  ·have:=h (j+1) v hv
   rwa [show k+(j+1)=k+1+j by omega]at this
theorem zg9{acc:Array Value}{n:Nat}(h:ItemsOf (λi v=>∃t,v=.int (0+i * 1) t) acc n):Vals ((List.range n).map λi:Nat=>V.int i) acc.toList:=by
 obtain⟨hz,hv⟩:=h;have:=zey acc.toList 0 λj v e=>by
  obtain⟨t,et⟩:=hv j v (by simpa using e);exact⟨t,by rw[et];congr 1;omega⟩
 rw[List.range_eq_range',<-hz];simpa using this
section
variable {X:Cx}{a:Expr}{p pos p2 pos2:Pos}
def tLR(ta:TA):TE:=λσ H Q=>ta σ H λvs H1=>∃j:Int,vs = [.int j]/\0<=j/\j<=1000000/\∀d,H1 d=none->Q (.ref d) (upd H1 d (.lst ((List.range j.toNat).map λi:Nat=>V.int i)))
theorem zn7{ta:TA}(hgl:Gl X "list")(hml:X.mg "list" = none)(hg:Gl X "range")(hm:X.mg "range" = none)(hc:X.calm=true)(ha:PA X [a] ta)(hs:starEach [a] X.env = [(false,eval a X.env)]:=by rfl)
  (hs2:starEach [.Call (.Name "range" p2) [a] [] pos2] X.env = [(false,eval (.Call (.Name "range" p2) [a] [] pos2) X.env)]:=by rfl) :
  PE X (.Call (.Name "list" p) [.Call (.Name "range" p2) [a] [] pos2] [] pos) (tLR ta):=by
 intro pins s σ H Q I h;refine Call_ (v6 I hgl hml PyProof.Rows.boot_list (PyProof.Rows.callWith_type1 ?_ hs2 rfl));rw[hs2];show wpAny _ _ (spliced ((false,eval (.Call (.Name "range" p2) [a] [] pos2) X.env)::backTo pos [])) _ _ s;refine Calls.spliced_cons ?_;refine Call_ (v6 I hg hm boot_range (PyProof.Rows.callWith_type1 (thn (ha pos2 pins s σ H _ I h) λus s1 ⟨vs,H1,I1,r1,q1⟩=>?_) hs rfl));obtain⟨j,e,h0,h1,q⟩:=q1;subst e
 cases r1 with
 |cons r rr=>
  cases rr;obtain⟨t,rfl⟩:=r;refine call_range_1 (Calls.spliced_nil ?_);refine call_list_range (n:=j.toNat) (I.ok.hd hc) (IsRange.new ..) (small_one (by omega) (by omega) (by omega) (by omega)) (by rw[rangeSize_one];split <;> omega) (by omega) λh' tk acc' c' hk hS hacc=>?_;have hz:=hacc.1;have sz:(s1.heap.push { cls:=.type "range",data:=.fields #[.int 0 s1.toks,.int j t,.int 1 (s1.toks+1)] }).objs.size=s1.heap.objs.size+1:=Heap.size_push ..;have hf:H1 (s1.heap.push { cls:=.type "range",data:=.fields #[.int 0 s1.toks,.int j t,.int 1 (s1.toks+1)] }).objs.size=none:=I1.hok.fresh (by rw[sz];omega);refine⟨.ref _,upd H1 _ (.lst ((List.range j.toNat).map λi:Nat=>V.int i)),I1.laid (t':=tk) (λb u e=>hk _ _ (Heap.get?_push_of_some _ e)) (by rw[sz];omega) ?_,rfl,q _ hf⟩;exact⟨by simp[sizeLine_eq];omega,acc'.toList,c',zg9 hacc,by simpa using hS⟩
def dLR(t:DTF):DTF:=λσ Q=>t σ λds=>match ds with
 |[.int j]=>0<=j/\j<=1000000/\Q (y9 0 j.toNat)
 |_=>False
theorem zc7{K:PySem.W.Frag}{H:Hp}(n:Nat):Reps K H (y9 0 n) ((List.range n).map λi:Nat=>V.int i):=by
 unfold y9;generalize List.range n=is
 induction is with
 |nil=>exact .nil
 |cons i is ih=>
  refine .cons ?_ ih;show Rep K H (.int (0+(i:Int))) (.int (i:Int));rw[Int.zero_add];exact .int
theorem zha{t:DTF}(hgl:Gl X "list")(hml:X.mg "list" = none)(hg:Gl X "range")(hm:X.mg "range" = none)(hc:X.calm=true)(ha:DA X [a] t)(hs:starEach [a] X.env = [(false,eval a X.env)]:=by rfl)
  (hs2:starEach [.Call (.Name "range" p2) [a] [] pos2] X.env = [(false,eval (.Call (.Name "range" p2) [a] [] pos2) X.env)]:=by rfl) :
  DF X (.Call (.Name "list" p) [.Call (.Name "range" p2) [a] [] pos2] [] pos) (dLR t) :=
 DF.of (zn7 hgl hml hg hm hc ha.pa hs hs2) λσ H H₀ σD QD ok q=>⟨H₀,σD,_,ok,q,λvs H1 ds s1 r1 q1=>by
  match ds,r1,q1 with
  |[.int j],r1,q1=>
   cases r1 with
   |cons r t=>
   cases t
   cases r;refine⟨j,rfl,q1.1,q1.2.1,λd hd=>?_⟩;have n1:H d=none:=by
    cases z:H d with
    |none=>rfl
    |some u=>rw[s1 d u z]at hd;cases hd
   exact⟨d,_,_,rfl,s1.trans (ya hd _),n1,zp,zc7 _,q1.2.2⟩⟩
end
def zwj(TI TO:Addr)(old fl:Value):Obj:={ cls:=.type "zip",dict:=none,data:=.fields #[old,fl,.bool false,.ref TI,.ref TO],slots:=#[] }
def IsZ(h:Heap)(z TI TO:Addr)(old fl:Value):Prop:=h.get? z=some (zwj TI TO old fl)
def zwk(old:Value):Prop:=old=.none\/∃p:Addr,old=rawInt p
section
variable {prog:Program}{w:World}{A:Around}{E:Value->Shared->Prop}{s:Shared}
end
def ZSt(b1 b2:Bool)(z TI TO i1 i2 l1 l2:Addr)(k:Nat)(h:Heap):Prop:=∃old fl a b,IsZ h z TI TO old fl/\zwk old/\IsPair h TI (.ref i1) (.ref i2)/\IsPair h TO a b/\zIt b1 h i1 l1 k/\zIt b2 h i2 l2 k
theorem ZSt.keep{b1 b2:Bool}{z TI TO i1 i2 l1 l2:Addr}{k:Nat}{h h':Heap}(st:ZSt b1 b2 z TI TO i1 i2 l1 l2 k h)(kp:∀b ∈ [z,TI,TO,i1,i2],∀o,h.get? b=some o->h'.get? b=some o):ZSt b1 b2 z TI TO i1 i2 l1 l2 k h':=by
 obtain⟨old,fl,a,b,hz,ho,hI,hO,h1,h2⟩:=st;exact⟨old,fl,a,b,kp _ (by simp) _ hz,ho,kp _ (by simp) _ hI,kp _ (by simp) _ hO,h1.at λo e=>kp i1 (by simp) o e,h2.at λo e=>kp i2 (by simp) o e⟩
section
variable {prog:Program}{w:World}{A:Around}{E:Value->Shared->Prop}{s:Shared}
end
section
variable {prog:Program}{w:World}{A:Around}{E:Value->Shared->Prop}{s:Shared}
end
section
variable {X:Cx}{a b:Expr}{p pos p2 pos2:Pos}{elts:List Expr}{tpos:Pos}
end
def ztg(k:Int):Value->Bool
 |.int i _=>i == k
 |_=>false
theorem zp0{ns:List Int}{its:List Value}(r:Vals (ns.map V.int) its):∀y∈its,∃i t,y=Value.int i t:=λy hy=>by
 obtain⟨j,hj⟩:=List.mem_iff_getElem?.mp hy;have hl:=r.length;rw[List.length_map]at hl;have hlt:j<ns.length:=by have:=(List.getElem?_eq_some_iff.mp hj).1;omega
 have hx:(ns.map V.int)[j]?=some (.int ns[j]):=by simp[hlt]
 obtain⟨u,hu,ru⟩:=r.get hx;rw[hj]at hu
 cases hu;obtain⟨t,rfl⟩:=ru;exact⟨_,_,rfl⟩
theorem zn8{ns:List Int}{its:List Value}(r:Vals (ns.map V.int) its)(k:Int){j:Nat}(hj:j<its.length):ztg k its[j]=decide (ns[j]?=some k):=by
 have hl:=r.length;rw[List.length_map]at hl;have hlt:j<ns.length:=by omega
 have hx:(ns.map V.int)[j]?=some (.int ns[j]):=by simp[hlt]
 obtain⟨u,hu,ru⟩:=r.get hx;rw[List.getElem?_eq_getElem hj]at hu
 cases hu;obtain⟨t,e⟩:=ru;rw[e,List.getElem?_eq_getElem hlt];simp only[ztg,Option.some.injEq]
 by_cases c:ns[j]=k
 ·simp[c]
 ·simp[c]
section
variable {X:Cx}
variable {o e:Expr}{to te:DTE}{apos cpos:Pos}
theorem zez{K:PySem.W.Frag}{H:Hp}:∀{ns:List Int}{vs:List V},Reps K H (ns.map PyData.int) vs->vs=ns.map V.int
 |[],_,r=>by cases r;rfl
 |n::ns,_,r=>by
  cases r with
  |cons r t=>
   cases r;rw[zez t];rfl
end
section
variable {X:Cx}{e:Expr}{tf:DTF}{pos:Pos}
end
section
variable (P:Program)(w:World)
end
section
variable {P:Program}{w:World}{H H':Hp}{h h':Heap}{a:Addr}{o:HO}
end
section
variable {P:Program}{w:World}{H:Hp}{h h':Heap}{x e:Addr}{o':HO}
end
section
variable {fs fs' ex ex':List Addr}{H H1 H2:Hp}{h h1 h2 h':Heap}{a x e:Addr}{o:HO}
end
section
variable {X:Cx}{pins:List (Addr×Obj)}{σ:List (Option V)}{H H':Hp}{s:Shared}{h':Heap}
end
section
variable {X:Cx}
variable {a b:Expr}{ta tb:TE}{pos:Pos}
variable {tA tB':TT}{rest:List Expr}
end
section
variable {X:Cx}{pins:List (Addr×Obj)}{σ:St}{H:Hp}{s:Shared}{a:Addr}{xs ys:List V}
end
section
variable {X:Cx}{pins:List (Addr×Obj)}{σ:St}{H:Hp}{s:Shared}{E:Value->Shared->Prop}
end
section
variable {X:Cx}{st:Stmt}{rest:List Stmt}{t u:TS}{e:Expr}{te:TE}{pos:Pos}
end
section
variable {X:Cx}{pos:Pos}
end
section
variable {X:Cx}{pos:Pos}
end
section
variable {X:Cx}{tg:Expr}
end
section
variable {X:Cx}{a b c:Expr}{ta tb tc:TE}{pos:Pos}
end
section
variable {X:Cx}{a b c:Expr}{ta tb tc:TE}{pos:Pos}
end
section
variable {prog:Program}{w:World}{A:Around}{E:Value->Shared->Prop}{s:Shared}{K:PySem.W.Frag}{x dx C f:Addr}{mA:Str->Option Value}{name:Str}{v:Value}
end
section
variable {P:Program}{w:World}{H H':Hp}{h h':Heap}{a C dx:Addr}{fs fs':List (Str×V)}
end
section
variable {X:Cx}{pins:List (Addr×Obj)}{σ:St}{H:Hp}{s:Shared}{a C dx:Addr}{fs:List (Str×V)}{f:Str}{v:V}{A:Around}{E:Value->Shared->Prop}
end
section
variable {X:Cx}{o e value:Expr}{f:Str}{pos pos' tpos:Pos}{ta tv:TE}
end
section
variable {X:Cx}{pins:List (Addr×Obj)}{σ:St}{H:Hp}{s:Shared}{A:Around}{E:Value->Shared->Prop}{Q:Value->Shared->Prop}{c:Value}{b:Bool}
end
section
variable {X:Cx}{e:Expr}{es:List Expr}{te:TE}{t:TA}{pos:Pos}
end
section
variable {X:Cx}{pins:List (Addr×Obj)}{σ:St}{H:Hp}{s s':Shared}
end
section
variable {X:Cx}{CX:CXT}{k:Nat}{f C:Addr}{fd:FuncData}{ps:List Str}{sp:Sp}{dvs:List V}{ds:List Value}{E:XK}{x m:Str}{p pos apos:Pos}{e o:Expr}{es:List Expr}{ta:TE}{t:TA}
end
section
variable {X:Cx}{CX:CXT}{k:Nat}{f C:Addr}{fd:FuncData}{ps ks:List Str}{sp:Sp}{E:XK}{x m:Str}{p pos apos kpos:Pos}{e o:Expr}{es:List Expr}{kws:List Keyword}{te ta:TE}{t tk:TA}{nm:Option Str}
variable {g:List Value->List Value->List Value}{gV:List V->List V->List V}
end
section
variable {X:Cx}{x:Str}{p pos:Pos}{e:Expr}{es:List Expr}{t:TA}{id T:String}{r:List V->Hp->VK->Prop}
end
section
variable {κ:Type}[DecidableEq κ]
def j6(kvs:List (κ×V))(k:κ):Option V:=(kvs.find? λkv=>decide (kv.1=k)).map (·.2)
def zar(kvs:List (κ×V))(k:κ)(v:V):List (κ×V) :=
 if (kvs.any λkv=>decide (kv.1=k))=true then kvs.map (λkv=>if kv.1=k then (kv.1,v) else kv) else kvs ++ [(k,v)]
def zq9(kvs:List (κ×V))(k:κ):List (κ×V):=kvs.filter λkv=>decide (kv.1≠k)
theorem za7{p:κ×V}{r:List (κ×V)}{k:κ}(e:p.1=k):j6 (p::r) k=some p.2:=by simp[j6,List.find?_cons,e]
theorem za8{p:κ×V}{r:List (κ×V)}{k:κ}(e:¬ p.1=k):j6 (p::r) k=j6 r k:=by simp[j6,List.find?_cons,e]
theorem zhb(k:κ):∀kvs:List (κ×V),(kvs.any λkv=>decide (kv.1=k))=(j6 kvs k).isSome
 |[]=>rfl
 |p::r=>by
  rw[List.any_cons]
  by_cases e:p.1=k
  ·simp only[za7 e,decide_eq_true e,Bool.true_or,Option.isSome_some]
  ·rw[za8 e,decide_eq_false e,Bool.false_or];exact zhb k r
theorem zb3(kvs:List (κ×V))(k:κ)(v:V):(zar kvs k v).length<=kvs.length+1:=by
 unfold zar
 split
 ·rw[List.length_map];omega
 ·rw[List.length_append,List.length_cons,List.length_nil];omega
theorem RelO.isSome_eq{o:Option V}{u:Option Value}(r:RelO o u):o.isSome=u.isSome:=by
 cases o with
 |none=>cases u with
  |none=>rfl
  |some _=>exact(show False from r).elim
 |some _=>cases u with
  |none=>exact(show False from r).elim
  |some _=>rfl
theorem RelO.getD{o:Option V}{u:Option Value}{d:V}{d':Value}(r:RelO o u)(rd:RelV d d'):RelV (o.getD d) (u.getD d'):=by
 cases o with
 |none=>cases u with
  |none=>exact rd
  |some _=>exact(show False from r).elim
 |some _=>cases u with
  |none=>exact(show False from r).elim
  |some _=>exact r
theorem KV.val{kvs:List (κ×V)}{vs:List (κ×Value)}(r:KV kvs vs)(k:κ):RelO (j6 kvs k) (valueAt vs k):=by
 unfold KV at r
 induction r with
 |nil=>exact True.intro
 |@cons p q ps qs h t ih=>
  obtain⟨h1,h2⟩:=h
  by_cases e:p.1=k
  ·have e':q.1=k:=h1.symm.trans e;have b:valueAt (q::qs) k=some q.2:=by simp[valueAt,List.find?_cons,e']
   rw[za7 e,b];exact h2
  ·have e':¬ q.1=k:=λz=>e (h1.trans z);have b:valueAt (q::qs) k=valueAt qs k:=by simp[valueAt,List.find?_cons,e']
   rw[za8 e,b];exact ih
theorem KV.any{kvs:List (κ×V)}{vs:List (κ×Value)}(r:KV kvs vs)(k:κ):(kvs.any λkv=>decide (kv.1=k))=vs.any λkv=>decide (kv.1=k):=by
 unfold KV at r
 induction r with
 |nil=>rfl
 |cons h t ih=>rw[List.any_cons,List.any_cons,ih,h.1]
theorem KV.repl{kvs:List (κ×V)}{vs:List (κ×Value)}(r:KV kvs vs)(k:κ){y:V}{u:Value}(ry:RelV y u):
  KV (kvs.map λkv=>if kv.1=k then (kv.1,y) else kv) (vs.map λkv=>if kv.1=k then (kv.1,u) else kv):=by
 unfold KV at r ⊢
 induction r with
 |nil=>exact .nil
 |@cons p q ps qs h t ih=>
  rw[List.map_cons,List.map_cons];refine .cons ?_ ih;obtain⟨h1,h2⟩:=h
  by_cases e:p.1=k
  ·rw[if_pos e,if_pos (h1.symm.trans e)];exact⟨h1,ry⟩
  ·rw[if_neg e,if_neg (λz=>e (h1.trans z))];exact⟨h1,h2⟩
theorem KV.put{kvs:List (κ×V)}{vs:List (κ×Value)}(r:KV kvs vs)(k:κ){y:V}{u:Value}(ry:RelV y u):KV (zar kvs k y) (stored vs k u):=by
 unfold zar stored;rw[r.any k]
 by_cases e:(vs.any λkv=>decide (kv.1=k))=true
 ·rw[if_pos e,if_pos e];exact r.repl k ry
 ·rw[if_neg e,if_neg e];exact Paired.snoc r ⟨rfl,ry⟩
theorem KV.drop{kvs:List (κ×V)}{vs:List (κ×Value)}(r:KV kvs vs)(k:κ):KV (zq9 kvs k) (without vs k):=by
 unfold KV at r ⊢;unfold zq9 without
 induction r with
 |nil=>exact .nil
 |@cons p q ps qs h t ih=>
  obtain⟨h1,h2⟩:=h;rw[List.filter_cons,List.filter_cons]
  by_cases e:p.1=k
  ·have a:¬ decide (p.1≠k)=true:=by simp[e]
   have b:¬ decide (q.1≠k)=true:=by simp[h1.symm.trans e]
   rw[if_neg a,if_neg b];exact ih
  ·have e':¬ q.1=k:=λz=>e (h1.trans z);have a:decide (p.1≠k)=true:=by simp[e]
   have b:decide (q.1≠k)=true:=by simp[e']
   rw[if_pos a,if_pos b];exact .cons ⟨h1,h2⟩ ih
theorem KV.length{kvs:List (κ×V)}{vs:List (κ×Value)}(r:KV kvs vs):kvs.length=vs.length:=Paired.length r
end
theorem zj6{P:Program}{w:World}{k:Key}{u:Value}(r:RelV (kV k) u):(wd P w).is k u=true:=by
 cases k with
 |inl i=>obtain⟨t,e⟩:=(show ∃t,u=Value.int i t from r);subst e;exact zgd P w i t
 |inr x=>obtain⟨t,e⟩:=(show ∃t,u=Value.str x t from r);subst e;exact zge P w x t
theorem ze0{P:Program}{w:World}:∀{ks:List Key}{us:List Value},Vals (ks.map kV) us->ItemsAre (wd P w) ks us
 |[],_,r=>by rw[List.map_nil]at r;cases r;exact .nil
 |k::ks,_,r=>by
  rw[List.map_cons]at r
  cases r with
  |cons h t=>exact .cons (zj6 h) (ze0 t)
abbrev KT(H:Hp):List (List Key×V)->List (List Key×Addr×Value)->Prop:=Paired λp q=>p.1=q.1/\H q.2.1=some (.tup (p.1.map kV))/\RelV p.2 q.2.2
theorem KT.val{H:Hp}{kvs:List (List Key×V)}{xs:List (List Key×Addr×Value)}(r:KT H kvs xs)(k:List Key):RelO (j6 kvs k) ((atKey xs k).map (·.2)):=by
 induction r with
 |nil=>exact True.intro
 |@cons p q ps qs h t ih=>
  obtain⟨h1,_,h2⟩:=h
  by_cases e:p.1=k
  ·have e':q.1=k:=h1.symm.trans e;have b:atKey (q::qs) k=some q.2:=by simp[atKey,List.find?_cons,e']
   rw[za7 e,b];exact h2
  ·have e':¬ q.1=k:=λz=>e (h1.trans z);have b:atKey (q::qs) k=atKey qs k:=by simp[atKey,List.find?_cons,e']
   rw[za8 e,b];exact ih
theorem KT.repl{H:Hp}{kvs:List (List Key×V)}{xs:List (List Key×Addr×Value)}(r:KT H kvs xs)(k:List Key){y:V}{u:Value}(ry:RelV y u):
  KT H (kvs.map λkv=>if kv.1=k then (kv.1,y) else kv) (xs.map (putAt k u)):=by
 induction r with
 |nil=>exact .nil
 |@cons p q ps qs h t ih=>
  rw[List.map_cons,List.map_cons];refine .cons ?_ ih;obtain⟨h1,h2,h3⟩:=h;unfold putAt
  by_cases e:p.1=k
  ·rw[if_pos e,if_pos (h1.symm.trans e)];exact⟨h1,h2,ry⟩
  ·rw[if_neg e,if_neg (λz=>e (h1.trans z))];exact⟨h1,h2,h3⟩
theorem KT.put{H:Hp}{kvs:List (List Key×V)}{xs:List (List Key×Addr×Value)}(r:KT H kvs xs)(k:List Key){b:Addr}{y:V}{u:Value}(hb:H b=some (.tup (k.map kV)))(ry:RelV y u):
  KT H (zar kvs k y) (storedH xs k b u):=by
 have e:(kvs.any λkv=>decide (kv.1=k))=(atKey xs k).isSome:=by
  rw[zhb,(r.val k).isSome_eq,Option.isSome_map]
 unfold zar storedH;rw[e]
 by_cases q:(atKey xs k).isSome=true
 ·rw[if_pos q,if_pos q];exact r.repl k ry
 ·rw[if_neg q,if_neg q];exact Paired.snoc r ⟨rfl,hb,ry⟩
theorem KT.keeps{H H':Hp}{kvs:List (List Key×V)}{xs:List (List Key×Addr×Value)}(r:KT H kvs xs)(ht:∀b ys,H b=some (.tup ys)->H' b=some (.tup ys)):KT H' kvs xs :=
 Paired.mapP r λ_ _ z=>⟨z.1,ht _ _ z.2.1,z.2.2⟩
section
variable {P:Program}{w:World}{H:Hp}{h:Heap}{a:Addr}
theorem zra{u:HO}(ok:HOk P w H h)(e:Rd H a u):ObjOk P w H h a u:=e.ok ok
theorem zhc{kvs:List (Key×V)}(ok:HOk P w H h)(e:Rd H a (.dK kvs)):kvs.length<=sizeLine/\(a == sysModules)=false/\∃vs,KV kvs vs/\h.DictOf (wd P w) a vs :=
 show ObjOk P w H h a (.dK kvs) from zra ok e
theorem zvh{kvs:List (Key×V)}(ok:HOk P w H h)(e:H a=some (.dK kvs)):kvs.length<=sizeLine/\(a == sysModules)=false/\∃vs,KV kvs vs/\h.DictOf (wd P w) a vs:=zhc ok (.inl e)
theorem zfv{ks:List Key}(ok:HOk P w H h)(e:H a=some (.tup (ks.map kV))):(tupleKind (wd P w)).is h ks a:=by
 obtain⟨_,its,r,o,h1,h2,⟨n,h3⟩,_⟩:=(show ObjOk P w H h a (.tup (ks.map kV)) from ok a _ e)
 exact⟨o,its.toArray,n,h1,h2,h3,by simpa using ze0 r⟩
theorem ze1{kvs:List (List Key×V)}(ok:HOk P w H h)(e:Rd H a (.dT kvs)):kvs.length<=sizeLine/\(a == sysModules)=false /\
  ∃xs,KT H kvs xs/\h.DictOfH (tupleKind (wd P w)) a xs:=by
 obtain⟨z,y,xs,r,o,es,ep,h1,h2,h3,h4,h5⟩:=(show ObjOk P w H h a (.dT kvs) from zra ok e)
 refine⟨z,y,xs,r,o,es,ep,h1,h2,h3,h4,λx hx=>?_,h5⟩;have all:∀{l:List (List Key×V)}{m:List (List Key×Addr×Value)},KT H l m->∀x∈m,(tupleKind (wd P w)).is h x.1 x.2.1:=by
  intro l m q
  induction q with
  |nil=>intro x hx;exact nomatch hx
  |@cons p q ps qs hq t ih=>
   intro x hx;rcases List.mem_cons.mp hx with e|hx
   ·subst e;exact zfv ok (by rw[<-hq.1];exact hq.2.1)
   ·exact ih x hx
 exact all r x hx
theorem zvi{kvs:List (List Key×V)}(ok:HOk P w H h)(e:H a=some (.dT kvs)):kvs.length<=sizeLine/\(a == sysModules)=false /\
  ∃xs,KT H kvs xs/\h.DictOfH (tupleKind (wd P w)) a xs:=ze1 ok (.inl e)
end
def DGet(H:Hp)(a:Addr)(y:V)(r:Option V):Prop :=
 (∃kvs k,Rd H a (.dK kvs)/\y=kV k/\r=j6 kvs k)\/∃kvs k b,Rd H a (.dT kvs)/\y=.ref b/\H b=some (.tup (k.map kV))/\r=j6 kvs k
def DPut(H:Hp)(a:Addr)(y v:V)(H':Hp):Prop :=
 (∃kvs k,H a=some (.dK kvs)/\y=kV k/\kvs.length<sizeLine/\H'=upd H a (.dK (zar kvs k v))) \/
 ∃kvs k b,H a=some (.dT kvs)/\y=.ref b/\H b=some (.tup (k.map kV))/\kvs.length<sizeLine/\H'=upd H a (.dT (zar kvs k v))
theorem DGet.k{H:Hp}{a:Addr}{kvs:List (Key×V)}{k:Key}(e:H a=some (.dK kvs)):DGet H a (kV k) (j6 kvs k):=.inl ⟨kvs,k,.inl e,rfl,rfl⟩
theorem DGet.t{H:Hp}{a b:Addr}{kvs:List (List Key×V)}{k:List Key}(e:H a=some (.dT kvs))(eb:H b=some (.tup (k.map kV))):DGet H a (.ref b) (j6 kvs k):=.inr ⟨kvs,k,b,.inl e,rfl,eb,rfl⟩
theorem DPut.k{H:Hp}{a:Addr}{kvs:List (Key×V)}{k:Key}{v:V}(e:H a=some (.dK kvs))(hl:kvs.length<sizeLine):DPut H a (kV k) v (upd H a (.dK (zar kvs k v))):=.inl ⟨kvs,k,e,rfl,hl,rfl⟩
theorem DPut.t{H:Hp}{a b:Addr}{kvs:List (List Key×V)}{k:List Key}{v:V}(e:H a=some (.dT kvs))(eb:H b=some (.tup (k.map kV)))(hl:kvs.length<sizeLine):
  DPut H a (.ref b) v (upd H a (.dT (zar kvs k v))):=.inr ⟨kvs,k,b,e,rfl,eb,hl,rfl⟩
section
variable {X:Cx}{pins:List (Addr×Obj)}{σ:St}{H:Hp}{s:Shared}{a:Addr}{y v:V}{u r:Value}{o:Option V}{A:Around}{E:Value->Shared->Prop}
theorem Inv.big(I:Inv X pins σ H s):sysModules<s.heap.objs.size:=by
 have h:mainGlobals<s.heap.objs.size:=(I.mod.glob.keeps I.bk).lt;exact Nat.lt_trans (by decide) h
theorem zlh{Q:Value->Shared->Prop}(hu:A.units+1<cLine)(I:Inv X pins σ H s)(g:DGet H a y (some v))(ry:RelV y u)(h:∀w' s',Inv X pins σ H s'->RelV v w'->Q w' s'):
  wpAny (model X.prog X.w) A (getItem (.ref a) u) Q E s:=by
 rcases g with⟨kvs,k,e,ey,l⟩ |⟨kvs,k,b,e,ey,eb,l⟩
 ·subst ey;obtain⟨z,hd,vs,rel,dd⟩:=zhc I.hok e;obtain⟨w',hw,rw'⟩:=RelO.some_of (v:=v) (o:=valueAt vs k) (by rw[l];exact rel.val k);exact wpAny_getItem_of (zj6 ry) dd.mapOf hw (h w' _ (I.tok _) rw')
 ·subst ey
  cases (show u=Value.ref b from ry);obtain⟨z,hd,xs,rel,dd⟩:=ze1 I.hok e;obtain⟨w',hw,rw'⟩:=RelO.some_of (v:=v) (o:=(atKey xs k).map (·.2)) (by rw[l];exact rel.val k);obtain⟨p,hp,hp2⟩:=Option.map_eq_some_iff.mp hw;refine wpAny_getItem_heap (tupleKind_room_in1 hu) (zfv I.hok eb) dd hp ?_;rw[hp2];exact h w' _ (I.tok _) rw'
theorem zp1{Q:Value->Shared->Prop}(hu:A.units+1<cLine)(I:Inv X pins σ H s)(g:DGet H a y o)(ry:RelV y u)(h:∀s',Inv X pins σ H s'->Q (.bool (!o.isSome)) s'):
  wpAny (model X.prog X.w) A (compareOp .NotIn u (.ref a)) Q E s:=by
 rcases g with⟨kvs,k,e,ey,l⟩ |⟨kvs,k,b,e,ey,eb,l⟩
 ·subst ey;obtain⟨z,hd,vs,rel,dd⟩:=zhc I.hok e;refine wpAny_notIn_of (zj6 ry) hd dd.mapOf ?_;rw[<-(rel.val k).isSome_eq,<-l];exact h _ (I.tok _)
 ·subst ey
  cases (show u=Value.ref b from ry);obtain⟨z,hd,xs,rel,dd⟩:=ze1 I.hok e;refine wpAny_notIn_heap (tupleKind_room_in1 hu) (zfv I.hok eb) hd dd ?_;have q:=(rel.val k).isSome_eq;rw[Option.isSome_map]at q;rw[<-q,<-l];exact h _ (I.tok _)
theorem zj7{h':Heap}{t':Nat}{ob:HO}(I:Inv X pins σ H s)(mu:Mut (H a))(hs:Heap.SameBut a s.heap h')(he:∃q,h'.get? a=some q)(new:ObjOk X.prog X.w (upd H a ob) h' a ob):
  Inv X pins σ (upd H a ob) { s with heap:=h',toks:=t' } :=
 I.write (x:=a) (e:=a) mu (.inl rfl) (λb q hb z=>(hs.2 b hb).trans z) he new
theorem zth{P:Program}{w:World}{H':Hp}{h':Heap}{kvs:List (Key×V)}{vs:List (Key×Value)}(z:kvs.length<=sizeLine)(hd:(a == sysModules)=false)(rel:KV kvs vs)(dd:h'.DictOf (wd P w) a vs):
  ObjOk P w H' h' a (.dK kvs):=⟨z,hd,vs,rel,dd⟩
theorem zli{H':Hp}{Q:Unit->Shared->Prop}(hu:A.units+1<cLine)(I:Inv X pins σ H s)(g:DPut H a y v H')(ry:RelV y u)(rv:RelV v r)(h:∀s',Inv X pins σ H' s'->Q () s'):
  wpAny (model X.prog X.w) A (setItem (.ref a) u r) Q E s:=by
 rcases g with⟨kvs,k,e,ey,l,eH⟩ |⟨kvs,k,b,e,ey,eb,l,eH⟩
 ·subst ey eH;obtain⟨z,hd,vs,rel,dd⟩:=zvh I.hok e;have hz:vs.length<=sizeLine:=by rw[<-rel.length];exact z
  have hl:(zar kvs k v).length<=sizeLine:=by have:=zb3 kvs k v;omega
  refine wpAny_setItem_pairs (hsz:=hz) (zj6 ry) dd λh' dd' hs=>h _ ?_;have he:∃q,h'.get? a=some q:=let ⟨q,_,_,hq,_⟩:=dd';⟨q,hq⟩;exact zj7 I (by rw[e];exact True.intro) hs he (zth hl hd (rel.put k rv) dd')
 ·subst ey eH
  cases (show u=Value.ref b from ry);obtain⟨z,hd,xs,rel,dd⟩:=zvi I.hok e;have hz:xs.length<=sizeLine:=by rw[<-Paired.length rel];exact z
  have hl:(zar kvs k v).length<=sizeLine:=by have:=zb3 kvs k v;omega
  refine wpAny_setItem_heap (hsz:=hz) (tupleKind_room_in1 hu) (zfv I.hok eb) dd λh' dd' hs=>h _ ?_;obtain⟨q,es,ep,hq,h2,h3,h4,_,h5⟩:=dd';refine zj7 I (by rw[e];exact True.intro) hs ⟨q,hq⟩ ⟨hl,hd,_,(rel.put k eb rv).keeps λc ys ec=>?_,q,es,ep,hq,h2,h3,h4,h5⟩;rw[zn (zgf ec e (λz=>nomatch z))];exact ec
end
section
variable {X:Cx}{pins:List (Addr×Obj)}{σ:St}{H:Hp}{s:Shared}{a:Addr}{kvs:List (Key×V)}{k:Key}{u:Value}{A:Around}{E:Value->Shared->Prop}
end
def zti(i:Expr):Prop:=∀ov iv,subscripted i false ov iv=operate [ov,iv] (getItem ov iv)
theorem zp2{prog:Program}{w:World}{A:Around}{E:Value->Shared->Prop}{s:Shared}{env:Env}{value slice:Expr}{pos:Pos}{T id:String}{Q:Value->Shared->Prop}
  (hl:typeLookup (.type T) "__getitem__" = pure (some (.builtin id))) (hs:zti slice)
  (h:wpAny (model prog w) A (eval value env) (λo s₁=>wpAny (model prog w) A (eval slice env) (λi s₂=>s₂.TypeIs o T/\wpAny (model prog w) A (getItem o i) Q E s₂) E s₁) E s) :
  wpAny (model prog w) A (eval (.Subscript value slice pos) env) Q E s:=by
 refine Subscript_ (wpAny_mono h (λo s₁ h₁=>wpAny_mono h₁ (λi s₂ h₂=>?_) λ_ _ x=>x) λ_ _ x=>x);obtain⟨hT,h₂⟩:=h₂;unfold subscriptTail;refine wpAny_bind ?_;rw[getitemInPython_of_ne hT.not_modules];refine wpAny_bind (wpAny_specialOf hT hl ?_);have fin:wpAny (model prog w) A (subscripted slice false o i) (λr s₃=>wpAny (model prog w) A (letTemporaryGo value o r >>= λ_=>pure r) Q E s₃) E s₂:=by
  rw[hs o i];exact wpAny_operating (wpAny_mono h₂ (λr s₃ h₃=>wpAny_bind (wpAny_letTemporaryGo (wpAny_pure h₃))) λ_ _ x=>x)
 first
  |exact wpAny_pure (wpAny_bind fin)
  |exact wpAny_bind (wpAny_pure (wpAny_bind fin))
  |exact wpAny_bind fin
theorem zhd{X:Cx}{pins:List (Addr×Obj)}{σ:St}{H:Hp}{s:Shared}{a:Addr}{y:V}{o:Option V}(I:Inv X pins σ H s)(g:DGet H a y o):s.TypeIs (.ref a) "dict" := by
 rcases g with⟨kvs,k,e,_,_⟩ |⟨kvs,k,b,e,_,_,_⟩
 ·obtain⟨_,_,vs,_,dd⟩:=zhc I.hok e;exact dd.typeIs
 ·obtain⟨_,_,xs,_,dd⟩:=ze1 I.hok e;exact dd.typeIs
def zvj(td ty:TE):TE:=λσ H Q=>td σ H λx H1=>ty σ H1 λy H2=>∃a v,x=.ref a/\DGet H2 a y (some v)/\Q v H2
def zp3(ty td:TE):TE:=λσ H Q=>ty σ H λy H1=>td σ H1 λx H2=>∃a o,x=.ref a/\DGet H2 a y o/\Q (.bl (!o.isSome)) H2
def zvk(td ty tv:TE):TS:=λD σ H=>tv σ H λv H1=>td σ H1 λx H2=>ty σ H2 λy H3=>∃a H4,x=.ref a/\DPut H3 a y v H4/\D.nx σ H4
section
variable {X:Cx}{o i e value:Expr}{pos pos' tpos:Pos}{td ty tv:TE}
theorem zp4(hu:X.A.units+1<cLine)(ho:PE X o td)(hi:PE X i ty)(hs:zti i):PE X (.Subscript o i pos) (zvj td ty):=by
 intro pins s σ H Q I h;refine zp2 PySem.F.slot_dict_getitem.lookup hs (thn (ho pins s σ H _ I h) λu s1 ⟨x,H1,I1,rx,q1⟩=>thn (hi pins s1 σ H1 _ I1 q1) λiv s2 ⟨y,H2,I2,ry,a,v,ex,g,q2⟩=>?_);subst ex;obtain rfl:u=Value.ref a:=rx;exact⟨zhd I2 g,zlh hu I2 g ry λw' s3 I3 rw'=>⟨v,H2,I3,rw',q2⟩⟩
theorem zlj(hu:X.A.units+1<cLine)(hi:PE X i ty)(ho:PE X o td):PC X .NotIn i o (zp3 ty td):=by
 intro pins s σ H Q I h;refine thn (hi pins s σ H _ I h) λiv s1 ⟨y,H1,I1,ry,q1⟩=>thn (ho pins s1 σ H1 _ I1 q1) λu s2 ⟨x,H2,I2,rx,a,ov,ex,g,q2⟩=>?_;subst ex;obtain rfl:u=Value.ref a:=rx;exact zp1 hu I2 g ry λs3 I3=>⟨.bl (!ov.isSome),H2,I3,rfl,q2⟩
theorem zp5(hu:X.A.units+1<cLine)(ho:PE X o td)(hi:PE X i ty)(hv:PE X value tv)(hs:swapsWith value (some (.Subscript o i pos')) pos.line X.env=pure false):
  PS X (.Assign [.Subscript o i pos'] value pos) (zvk td ty tv):=by
 intro pins s σ H D I h;refine wpAny_Assign_Subscript (thn (hv pins s σ H _ I h) λr s1 ⟨v,H1,I1,rv,q1⟩=>thn (ho pins s1 σ H1 _ I1 q1) λu s2 ⟨x,H2,I2,rx,q2⟩=>thn (hi pins s2 σ H2 _ I2 q2) λiv s3 ⟨y,H3,I3,ry,a,H4,ex,g,q3⟩=>?_) hs;subst ex;obtain rfl:u=Value.ref a:=rx;exact zli hu I3 g ry rv λs4 I4=>⟨σ,H4,I4,q3⟩
end
theorem zn9{P:Program}{w:World}{H:Hp}(h:Heap)(hb:sysModules<h.objs.size):ObjOk P w H (h.push { cls:=.type "dict",data:=.dict #[] }) h.objs.size (.dT []) :=
 ⟨Nat.zero_le _,beq_eq_false_iff_ne.mpr (Ne.symm (Nat.ne_of_lt hb)),[],.nil,_,#[],0,Heap.get?_push_size _ rfl,⟨rfl,rfl,rfl⟩,rfl,rfl,List.nodup_nil⟩
def ztj:TE:=λ_ H Q=>∀p,H p=none->Q (.ref p) (upd H p (.dT []))
section
variable {X:Cx}{pos:Pos}
theorem zoa:PE X (.Dict [] [] pos) ztj:=λpins s σ H Q I h=>
 wpAny_Dict_empty ⟨.ref s.heap.objs.size,_,I.laid (a:=s.heap.objs.size) (o:=.dT []) (t':=s.toks) (λ_ _ q=>Heap.get?_push_of_some _ q) (Nat.le_refl _) (zn9 s.heap I.big),rfl,h _ (I.hok.fresh (Nat.le_refl _))⟩
end
structure M1(X:Cx)(o:Expr)(m:Str)(apos:Pos)(e:Expr)(cpos:Pos):Prop where
 base:attributeBase o m X.env (eval o X.env)=eval o X.env
 few:((backTo cpos (starEach [e] X.env)).all (λx=>!x.1) && (backToKw cpos (keywordEach [] X.env)).all (λx=>x.1.isSome)
  && decide (([e]:List Expr).length+([]:List Keyword).length+(if ([]:List Keyword).isEmpty then 0 else 1)<30))=true
 line:(apos.endLine == cpos.line)=true
 trees:backTo cpos (starEach [e] X.env) = [(false,eval e X.env)]
structure M2(X:Cx)(o:Expr)(m:Str)(apos:Pos)(e f:Expr)(cpos:Pos):Prop where
 base:attributeBase o m X.env (eval o X.env)=eval o X.env
 few:((backTo cpos (starEach [e,f] X.env)).all (λx=>!x.1) && (backToKw cpos (keywordEach [] X.env)).all (λx=>x.1.isSome)
  && decide (([e,f]:List Expr).length+([]:List Keyword).length+(if ([]:List Keyword).isEmpty then 0 else 1)<30))=true
 line:(apos.endLine == cpos.line)=true
 trees:backTo cpos (starEach [e,f] X.env) = [(false,eval e X.env),(false,eval f X.env)]
def IsD(H:Hp)(a:Addr):Prop:=(∃kvs,Rd H a (.dK kvs))\/∃kvs,Rd H a (.dT kvs)
theorem ztk{X:Cx}{pins:List (Addr×Obj)}{σ:St}{H:Hp}{s:Shared}{a:Addr}(I:Inv X pins σ H s)(d:IsD H a):
  s.TypeIs (.ref a) "dict" /\(∀b,Value.ref a=.ref b->∃ob,s.heap.get? b=some ob/\ob.dict=none)/\(a == sysModules)=false:=by
 rcases d with⟨kvs,e⟩ |⟨kvs,e⟩
 ·obtain⟨_,hd,vs,_,dd⟩:=zhc I.hok e;refine⟨dd.typeIs,λb q=>?_,hd⟩
  cases q;obtain⟨ob,_,_,h1,h2,_⟩:=dd;exact⟨ob,h1,h2.2.1⟩
 ·obtain⟨_,hd,xs,_,dd⟩:=ze1 I.hok e;refine⟨dd.typeIs,λb q=>?_,hd⟩
  cases q;obtain⟨ob,_,_,h1,h2,_⟩:=dd;exact⟨ob,h1,h2.2.1⟩
section
variable {X:Cx}{pins:List (Addr×Obj)}{σ:St}{H:Hp}{s:Shared}{a:Addr}{y d:V}{u r:Value}{o:Option V}{A:Around}{E:Value->Shared->Prop}
end
section
variable {X:Cx}{o e f:Expr}{apos cpos:Pos}{td ty tx:TE}
end
section
variable {X:Cx}{pins:List (Addr×Obj)}{σ:St}{H:Hp}{s:Shared}{a:Addr}{kvs:List (Key×V)}{A:Around}{E:Value->Shared->Prop}
end
section
variable {X:Cx}{pins:List (Addr×Obj)}{σ:St}{H:Hp}{s:Shared}{a:Addr}{y:V}{u:Value}{A:Around}{E:Value->Shared->Prop}
end
end L2
namespace Att
open PySem PySem.W PySem.Calls PyProof.Rows
section
variable {prog:Program}{w:World}{A:Around}{E:Value->Shared->Prop}{s:Shared}{K:Frag}
end
end Att
namespace L2
open PySem PySem.Spec PyProof.Rows
section
variable {P:Program}{w:World}{K:PySem.W.Frag}{mg:Str->Option Value}{base:Heap}
end
section
variable {X:Cx}
end
section
variable {κ:Type}[DecidableEq κ]
end
def zas{κ:Type}[DecidableEq κ](ks:List (κ×D))(k:κ):Option D:=(ks.find? λkv=>decide (kv.1=k)).map (·.2)
def zd0{κ:Type}[DecidableEq κ](ks:List (κ×D))(k:κ)(d:D):List (κ×D):=if (ks.any λkv=>decide (kv.1=k))=true then ks.map (λkv=>if kv.1=k then (kv.1,d) else kv) else ks ++ [(k,d)]
section
variable {K:PySem.W.Frag}{H H':Hp}{κ:Type}[DecidableEq κ]
theorem RepKV.split{ks:List (κ×D)}{vs:List (κ×V)}{p:κ×D}(h:RepKV K H (p::ks) vs):∃v vs',vs=(p.1,v)::vs'/\Rep K H p.2 v/\RepKV K H ks vs':=by
 obtain⟨h1,h2⟩:=h
 cases vs with
 |nil=>cases h1
 |cons q vs=>
  obtain⟨k,v⟩:=q;rw[List.map_cons,List.map_cons,List.cons.injEq]at h1;rw[List.map_cons,List.map_cons]at h2
  cases h2 with
  |cons r t=>
   obtain⟨e,e2⟩:=h1;have e':p.1=k:=e;subst e';exact⟨v,vs,rfl,r,e2,t⟩
theorem RepKV.cons{ks:List (κ×D)}{vs:List (κ×V)}{k:κ}{d:D}{v:V}(r:Rep K H d v)(h:RepKV K H ks vs):RepKV K H ((k,d)::ks) ((k,v)::vs):=⟨by simp[h.1],.cons r h.2⟩
theorem RepKV.nil':RepKV (κ:=κ) K H [] []:=⟨rfl,.nil⟩
theorem RepKV.len{ks:List (κ×D)}{vs:List (κ×V)}(h:RepKV K H ks vs):ks.length=vs.length:=by
 have:=congrArg List.length h.1;simpa using this
theorem RepKV.get:∀{ks:List (κ×D)}{vs:List (κ×V)}{k:κ}{d:D},RepKV K H ks vs->zas ks k=some d->∃v,j6 vs k=some v/\Rep K H d v
 |[],_,_,_,_,e=>by cases e
 |p::ks,vs,k,d,h,e=>by
  obtain⟨v,vs',rfl,r,t⟩:=h.split
  by_cases c:p.1=k
  ·rw[za7 (p:=(p.1,v)) c];have:zas (p::ks) k=some p.2:=by simp[zas,List.find?_cons,c]
   rw[this]at e
   cases e;exact⟨v,rfl,r⟩
  ·rw[za8 (p:=(p.1,v)) c];have:zas (p::ks) k=zas ks k:=by simp[zas,List.find?_cons,c]
   rw[this]at e;exact RepKV.get t e
theorem RepKV.any:∀{ks:List (κ×D)}{vs:List (κ×V)} (k:κ),RepKV K H ks vs->(ks.any λkv=>decide (kv.1=k))=vs.any λkv=>decide (kv.1=k)
 |[],vs,k,h=>by
  cases vs with
  |nil=>rfl
  |cons q vs=>cases h.1
 |p::ks,vs,k,h=>by
  obtain⟨v,vs',rfl,r,t⟩:=h.split;rw[List.any_cons,List.any_cons,RepKV.any k t]
theorem RepKV.map:∀{ks:List (κ×D)}{vs:List (κ×V)}{k:κ}{d:D}{v:V},RepKV K H ks vs->Rep K H d v->RepKV K H (ks.map λkv=>if kv.1=k then (kv.1,d) else kv) (vs.map λkv=>if kv.1=k then (kv.1,v) else kv)
 |[],vs,k,d,v,h,_=>by
  cases vs with
  |nil=>exact RepKV.nil'
  |cons q vs=>cases h.1
 |p::ks,vs,k,d,v,h,rd=>by
  obtain⟨v',vs',rfl,r,t⟩:=h.split;rw[List.map_cons,List.map_cons];have ih:=RepKV.map (k:=k) t rd;obtain⟨pk,pd⟩:=p
  by_cases c:pk=k
  ·simp only[c,if_true];exact RepKV.cons rd ih
  ·simp only[c,if_false];exact RepKV.cons r ih
theorem RepKV.snoc:∀{ks:List (κ×D)}{vs:List (κ×V)}{k:κ}{d:D}{v:V},RepKV K H ks vs->Rep K H d v->RepKV K H (ks ++ [(k,d)]) (vs ++ [(k,v)])
 |[],vs,k,d,v,h,rd=>by
  cases vs with
  |nil=>exact RepKV.cons rd RepKV.nil'
  |cons q vs=>cases h.1
 |p::ks,vs,k,d,v,h,rd=>by
  obtain⟨v',vs',rfl,r,t⟩:=h.split;obtain⟨pk,pd⟩:=p;exact RepKV.cons r (RepKV.snoc t rd)
theorem RepKV.put{ks:List (κ×D)}{vs:List (κ×V)}{k:κ}{d:D}{v:V}(h:RepKV K H ks vs)(rd:Rep K H d v):RepKV K H (zd0 ks k d) (zar vs k v):=by
 unfold zd0 zar;rw[h.any k]
 split
 ·exact h.map rd
 ·exact h.snoc rd
end
section
variable {K:PySem.W.Frag}{H₀ H H':Hp}{σD:DSt}{σ:St}
end
section
variable {X:Cx}{e:Expr}{te tk tv:DTE}{pos:Pos}
end
section
variable {X:Cx}
variable {o e:Expr}{to te:DTE}{apos cpos:Pos}
end
end L2
namespace SQ
open PySem PyProof.Rows
set_option autoImplicit false
section
variable {κ:KeyKind}
variable {prog:Program}{w:World}{A:Around}{E:Value->Shared->Prop}{s:Shared}{κ:KeyKind}{kd:SortKind}{a₀:Array Keyed}
theorem zb4{st:SortSt}{Q:Unit->SortSt->Prop}(L:zbs prog w A s κ kd)(h0:KeysOf κ a₀)(g:SG kd a₀ st)(hp:pendingOf st = #[])(h2:2<=a₀.size)(h64:a₀.size<64)(q:∀st',SG kd a₀ st'->SortedToK κ (arrOf st') a₀.size->Q () st'):wpS (model prog w) A E s sortRuns' Q st:=by
 rw[sortRuns'_eq];refine wpS_bind (wpS_get ?_);dsimp only;simp only[g.sz];have emr:minRun' a₀.size a₀.size 0=a₀.size:=by
  obtain⟨m,hm⟩:∃m,a₀.size=m+1:=⟨a₀.size-1,by omega⟩
  conv=>lhs;arg 1;rw[hm]
  rw[minRun'_succ,if_pos h64,Nat.add_zero]
 rw[emr];refine wpS_bind (wpS_mono (wpS_forRange (I:=λx c z=>∃lo,c=(none,lo)/\SG kd a₀ z/\Cov κ (arrOf z) 0 (pendingOf z).toList lo/\lo<=a₀.size/\x<=lo/\((lo=0/\pendingOf z = #[])\/(lo=a₀.size/\(pendingOf z).size<=1)))
  (Q:=λc z=>c=(none,a₀.size)/\SG kd a₀ z/\Cov κ (arrOf z) 0 (pendingOf z).toList a₀.size/\(pendingOf z).size<=1) (λx c z hx1 hx2 h=>?_) (λc z h=>?_) ⟨0,rfl,g,by rw[hp];rfl,by omega,by omega,.inl ⟨rfl,hp⟩⟩) (λc z h=>?_))
 ·obtain⟨lo,rfl,gz,cv,l1,l2,l3⟩:=h;dsimp only;refine zft (λc=>?_) (λc=>?_)
  ·have e9:lo=a₀.size:=by omega
   subst e9;refine wpS_pure ⟨rfl,gz,cv,?_⟩;rcases l3 with⟨z,_⟩ |⟨_,z⟩
   ·omega
   ·exact z
  obtain⟨rfl,hpz⟩:lo=0/\pendingOf z = #[]:=by
   rcases l3 with z |⟨z,_⟩
   ·exact z
   ·omega
  refine wpS_bind (zio L h0 gz (by omega) (by omega) λk z1 g1 mv k1 k2 u=>?_);have hp1:pendingOf z1 = #[]:=by rw[mv.pend];exact hpz
  have cv1:Cov κ (arrOf z1) 0 (pendingOf z1).toList 0:=by rw[hp1];rfl
  dsimp only;refine zft (λcm=>?_) (λcm=>?_)
  ·refine wpS_bind (wpS_lift (wpAny_rule ⟨rfl,?_⟩));refine wpS_bind (zn3 L h0 g1 (by omega) (by omega) u λz2 g2 mv2 u2=>?_);rw[if_neg (by decide)];have hp2:pendingOf z2 = #[]:=by rw[mv2.pend];exact hp1
   have cv2:Cov κ (arrOf z2) 0 (pendingOf z2).toList 0:=by rw[hp2];rfl
   refine wpS_bind (wpS_get ?_)
   cases hb:(pendingOf z2).back? with
   |none=>
    dsimp only;refine wpS_bind (wpS_modify (wpS_pure ⟨0+(min (a₀.size-0) a₀.size),rfl,⟨g2.perm,g2.kind,g2.fail⟩,?_,by omega,by omega,.inr ⟨by omega,?_⟩⟩))
    ·show Cov κ (arrOf z2) 0 ((pendingOf z2).push (0,min (a₀.size-0) a₀.size,0)).toList (0+(min (a₀.size-0) a₀.size));rw[Array.toList_push];exact cv2.push (by omega) u2
    ·show((pendingOf z2).push (0,min (a₀.size-0) a₀.size,0)).size<=1;rw[hp2];exact Nat.le_refl 1
   |some t=>rw[hp2]at hb;cases hb
  ·refine wpS_bind (wpS_get ?_)
   cases hb:(pendingOf z1).back? with
   |none=>
    dsimp only;refine wpS_bind (wpS_modify (wpS_pure ⟨0+(k),rfl,⟨g1.perm,g1.kind,g1.fail⟩,?_,by omega,by omega,.inr ⟨by omega,?_⟩⟩))
    ·show Cov κ (arrOf z1) 0 ((pendingOf z1).push (0,k,0)).toList (0+(k));rw[Array.toList_push];exact cv1.push k1 u
    ·show((pendingOf z1).push (0,k,0)).size<=1;rw[hp1];exact Nat.le_refl 1
   |some t=>rw[hp1]at hb;cases hb
 ·obtain⟨lo,rfl,gz,cv,l1,l2,l3⟩:=h;have e9:lo=a₀.size:=by omega
  subst e9;refine⟨rfl,gz,cv,?_⟩;rcases l3 with⟨z,_⟩ |⟨_,z⟩
  ·omega
  ·exact z
 ·obtain⟨rfl,gz,cv,hz1⟩:=h;dsimp only
  refine wpS_bind (wpS_mono (wpS_forRange (I:=λx c z=>c=(none,())/\SG kd a₀ z/\Cov κ (arrOf z) 0 (pendingOf z).toList a₀.size/\(pendingOf z).size<=1)
   (Q:=λc z=>c=(none,())/\SG kd a₀ z/\Cov κ (arrOf z) 0 (pendingOf z).toList a₀.size/\(pendingOf z).size<=1) (λx c z hx1 hx2 h=>?_) (λc z h=>h) ⟨rfl,gz,cv,hz1⟩) (λc z h=>?_))
  ·obtain⟨rfl,gz,cv,hz⟩:=h;refine wpS_bind (wpS_get ?_);exact zft (λc=>wpS_pure ⟨rfl,gz,cv,c⟩) (λc=>absurd hz c)
  ·obtain⟨rfl,gz,cv,hz⟩:=h;refine wpS_pure (q z gz λi j a b=>?_)
   have:∀l:List (Nat×Nat×Nat),l.length<=1->Cov κ (arrOf z) 0 l a₀.size->Up κ (arrOf z) 0 a₀.size:=by
    intro l hl c
    match l,hl,c with
    |[],_,c=>have:0=a₀.size:=c;omega
    |[(b,n,p)],_,c=>
     obtain⟨_,_,u,e⟩:=c;have e':0+n=a₀.size:=e;rw[Nat.zero_add]at e';rw[<-e'];exact u
   exact this _ (by simpa using hz) cv i j (Nat.zero_le _) a (by omega)
end
section
variable {prog:Program}{w:World}{A:Around}{E:Value->Shared->Prop}{s:Shared}
theorem zhe{κ:KeyKind}{kd:SortKind}{a:Addr}{vs:List Value}{n:Nat}{P:Fin->Shared->Prop}(ho:s.heap.get? a=some (seqObj "list" vs.toArray n))(hz:vs.length<=sizeLine)(h64:vs.length<64)
  (L:∀h':Heap,(∀b o,b≠a->s.heap.get? b=some o->h'.get? b=some o)->zbs prog w A { s with heap:=h' } κ kd) (h0:KeysOf κ (pairsOf vs))
  (hkk:2<=vs.length->∀(h':Heap) (Q:SortKind->Shared->Prop),(∀b o,b≠a->s.heap.get? b=some o->h'.get? b=some o)->Q kd { s with heap:=h' }->wpAny (model prog w) A (keyKind' vs.toArray) Q E { s with heap:=h' })
  (h:∀out:Array Keyed,out.Perm (pairsOf vs)->SortedToK κ out (pairsOf vs).size->P (.done (.ret .none)) { s with heap:=sortedHeap s.heap a vs (out.map (·.2)) }) :
  wpAny (model prog w) A (Builtin.«list.sort» ⟨[.ref a],[]⟩) P E s:=by
 rw[list_sort_plain];have la:a<s.heap.objs.size:=Heap.lt_size ho;refine wpAny_bind (listItems_at ho rfl ?_);refine wpAny_bind (listUpdate_at ho rfl ?_ (by simpa using hz) (Nat.zero_le _));obtain⟨e1,g1⟩:∃e1,(s.heap.update a (Obj.mapSeq λ_=>#[])).get? a=some (seqObj "list" #[] e1):=⟨_,get?_update_seq ho (λ_=>#[])⟩
 refine wpAny_bind (seqEpoch_at g1 rfl ?_);refine wpAny_bind (wpAny_newTuple ?_ (by simpa using hz));refine wpAny_bind (wpAny_newList ?_ (Nat.zero_le _));refine wpAny_holding ?_;have g6:(((s.heap.update a (Obj.mapSeq λ_=>#[])).push (seqObj "tuple" vs.toArray 0)).push (seqObj "list" #[] 0)).get? a=some (seqObj "list" #[] e1):=Heap.get?_push_of_some _ (Heap.get?_push_of_some _ g1);have keep:∀b o,b≠a->s.heap.get? b=some o->(((s.heap.update a (Obj.mapSeq λ_=>#[])).push (seqObj "tuple" vs.toArray 0)).push (seqObj "list" #[] 0)).get? b=some o:=λb o nb e=>Heap.get?_push_of_some _ (Heap.get?_push_of_some _ (by rw[Heap.get?_update_ne _ _ _ _ nb];exact e));show wpAny (model prog w) A _ P E { s with heap:=((s.heap.update a (Obj.mapSeq λ_=>#[])).push (seqObj "tuple" vs.toArray 0)).push (seqObj "list" #[] 0) };dsimp only;have sz:vs.toArray.size=vs.length:=by simp
 by_cases c:vs.toArray.size<2
 ·rw[if_pos c,if_pos c];refine wpAny_bind (wpAny_pure ?_);rw[StateT.run_pure];refine wpAny_bind (wpAny_pure ?_);dsimp only;refine wpAny_bind (seqEpoch_at g6 rfl ?_);refine wpAny_bind (listUpdate_at g6 rfl ?_ (Nat.zero_le _) (by show(Array.map _ (pairsOf vs)).size<=_;rw[Array.size_map,pairsOf_size,sizeLine_eq];omega));simp only[bne_self_eq_false,Bool.false_eq_true,if_false];refine wpAny_pure (h (vs.toArray.zip vs.toArray) (Array.Perm.refl _) λi j hij hj=>?_);have:i=j:=by rw[pairsOf_size]at hj;omega
  subst this;exact KeyOrd.kle_refl _
 ·rw[if_neg c,if_neg c];refine wpAny_bind (hkk (by omega) _ _ keep ?_)
  refine wpAny_bind (wpAny_mono (zb4 (κ:=κ) (kd:=kd) (a₀:=pairsOf vs) (st:=SortSt.mk' kd (vs.toArray.zip vs.toArray) #[] 7 none)
   (Q:=λ_ st'=>(arrOf st').Perm (pairsOf vs)/\failedOf st'=none/\SortedToK κ (arrOf st') (pairsOf vs).size) (L _ keep)
   h0 ⟨Array.Perm.refl _,rfl,rfl⟩ rfl (by rw[pairsOf_size];omega) (by rw[pairsOf_size];exact h64) λst' g' s'=>⟨g'.perm,g'.fail,s'⟩) ?_ λ_ _ e=>e)
  rintro ⟨⟨⟩,st'⟩ s' ⟨rfl,hp,hf,hs⟩;dsimp only;refine wpAny_bind (seqEpoch_at g6 rfl ?_);refine wpAny_bind (listUpdate_at g6 rfl ?_ (Nat.zero_le _) (by
   show(Array.map _ (arrOf st')).size<=_;rw[Array.size_map,hp.size_eq,pairsOf_size];omega))
  rw[hf];simp only[bne_self_eq_false,Bool.false_eq_true,if_false];exact wpAny_pure (h (arrOf st') hp hs)
theorem ze2{κ:KeyKind}{kd:SortKind}{l:Addr}{T:String}{o:Obj}{vs:List Value}{n:Nat}{Q:Value->Shared->Prop}(hT:T = "list" \/ T = "tuple")(ho:s.heap.get? l=some o)(hc:o.cls=.type T)(hd:o.data=.seq vs.toArray n)(hz:vs.length<=sizeLine)(h64:vs.length<64)
  (L:∀(A':Around) (h':Heap),A'.units<=A.units+8->(∀b o,s.heap.get? b=some o->h'.get? b=some o)->zbs prog w A' { s with heap:=h' } κ kd) (h0:KeysOf κ (pairsOf vs))
  (hkk:2<=vs.length->∀(A':Around) (E':Value->Shared->Prop) (h':Heap) (Q:SortKind->Shared->Prop),(∀b o,s.heap.get? b=some o->h'.get? b=some o)->Q kd { s with heap:=h' }->wpAny (model prog w) A' (keyKind' vs.toArray) Q E' { s with heap:=h' })
  (h:∀(out:Array Keyed) (h':Heap) (r:Addr) (e:Nat),out.Perm (pairsOf vs)->SortedToK κ out (pairsOf vs).size->s.heap.objs.size<=r->h'.get? r=some (seqObj "list" (out.map (·.2)) e)->(∀b o,s.heap.get? b=some o->h'.get? b=some o)->Q (.ref r) { s with heap:=h' }) :
  wpAny (model prog w) A (call (.builtin "sorted") [.ref l]) Q E s:=by
 refine Calls.call_function_entry kind_sorted plain_sorted entry_sorted (args_sorted1 _) ?_;unfold Builtin.«sorted»;refine wpAny_bind (m:=checkCount "sorted" 1 1 _) (wpAny_pure ?_);refine wpAny_bind (zle hT ho hc hd (by simpa using hz) ?_);rw[List.toList_toArray];refine wpAny_bind (wpAny_newList ?_ hz);have es:((s.heap.push (seqObj "list" #[] 0)).update s.heap.objs.size (Obj.mapSeq (·++vs.toArray))).objs.size=s.heap.objs.size+1:=by rw[Heap.size_update,size_push']
 have gL:(((s.heap.push (seqObj "list" #[] 0)).update s.heap.objs.size (Obj.mapSeq (·++vs.toArray))).push (seqObj "list" vs.toArray 0)).get? (s.heap.objs.size+1)=some (seqObj "list" vs.toArray 0):=by rw[<-es];exact Heap.get?_push_size _ rfl
 have k2:∀b o,s.heap.get? b=some o->(((s.heap.push (seqObj "list" #[] 0)).update s.heap.objs.size (Obj.mapSeq (·++vs.toArray))).push (seqObj "list" vs.toArray 0)).get? b=some o:=λb o e=>
  Heap.get?_push_of_some _ (by rw[Heap.get?_update_ne _ _ _ _ (Nat.ne_of_lt (Heap.lt_size e))];exact Heap.get?_push_of_some _ e)
 have nb:∀b o,s.heap.get? b=some o->b≠s.heap.objs.size+1:=λb o e=>Nat.ne_of_lt (Nat.lt_succ_of_lt (Heap.lt_size e));show wpAny _ _ _ _ _ { s with heap:=((s.heap.push (seqObj "list" #[] 0)).update s.heap.objs.size (Obj.mapSeq (·++vs.toArray))).push (seqObj "list" vs.toArray 0) };rw[es];refine wpAny_bind (wpAny_holding (wpAny_call_entry slot_list_sort ⟨_,gL,rfl⟩ entry_list_sort (zhe (κ:=κ) (kd:=kd) gL hz h64 (λh' k'=>L _ h' (zpx A) λb o e=>k' b o (nb b o e) (k2 b o e)) h0 (λh2 h' Q k' q=>hkk h2 _ _ h' Q (λb o e=>k' b o (nb b o e) (k2 b o e)) q) λout p1 p2=>⟨_,rfl,?_⟩) (args_list_sort _)));refine wpAny_pure ⟨_,rfl,?_⟩;obtain⟨e,he⟩:=sortedAll_at s.heap vs (out.map (·.2));exact h out _ _ e p1 p2 (Nat.le_succ _) he λb o z=>sortedAll_old z
end
end SQ
namespace L2
open PySem PySem.Spec PyProof.Rows SQ
section
variable {X:Cx}
theorem zc8{pins:List (Addr×Obj)}{σ:St}{H:Hp}{s:Shared}{Q:List D->Prop}{xs:List D}{vs:List V}{us:List Value}{a:Addr}{T:String}{o:Obj}{n:Nat}(I:Inv X pins σ H s)(r:Reps X.K H xs vs)(rv:Vals vs us)(hT:T = "list" \/ T = "tuple")(ho:s.heap.get? a=some o)(hc:o.cls=.type T)(hd:o.data=.seq us.toArray n)(hz:vs.length<=sizeLine)(h64:vs.length<64)(q:zfu xs Q):
  wpAny (model X.prog X.w) X.A (call (.builtin "sorted") [.ref a]) (zel X pins σ H Q) X.xe s:=by
 have zu:us.length<=sizeLine:=by rw[<-rv.length];exact hz
 have fin:∀(out:Array Keyed) (h':Heap) (p:Addr) (e:Nat) (ys:List D) (vs':List V),(out.map (·.2)).toList.Perm us->Vals vs' (out.map (·.2)).toList->Reps X.K H ys vs'->s.heap.objs.size<=p->h'.get? p=some (seqObj "list" (out.map (·.2)) e)->(∀b o,s.heap.get? b=some o->h'.get? b=some o)->Q ys->zel X pins σ H Q (.ref p) { s with heap:=h' }:=by
  intro out h' p e ys vs' pm rv' r' hp g k qy;have hn:=I.hok.fresh hp;have lv:vs'.length<=sizeLine:=by rw[rv'.length,pm.length_eq];exact zu
  exact⟨p,_,vs',ys,rfl,I.laid (t':=s.toks) (o:=.lst vs') k hp ⟨lv,(out.map (·.2)).toList,e,rv',g⟩,ya hn _,hn,zp,r'.same (ya hn _),qy⟩
 rcases q with⟨ns,rfl,q⟩ |⟨tss,rfl,hne,q⟩
 ·have e1:=Reps.of_ints r;subst e1;have hi:=qa rv
  have hk:∀v∈us,∃k,intK.keyOf v=some k:=λv hv=>by
   obtain⟨i,t,rfl⟩:=hi.all v hv;exact⟨i,rfl⟩
  refine ze2 (κ:=intK) (kd:=oneType') hT ho hc hd zu (by rw[<-rv.length];exact h64) (λA' h' _ _=>zpy) (za5 hk) (λh2 A' E' h' Q' k q=>?_) λout h' p e p1 p2 hp g k=>?_
  ·cases us with
   |nil=>simp at h2
   |cons u us=>
    cases us with
    |nil=>simp at h2
    |cons u2 us=>rw[keyKind_ints hi];exact wpAny_pure q
  ·obtain⟨pm,ks,a2,pw⟩:=zew p1 p2 hk;obtain⟨vs',ds',rv',r',pd⟩:=zex pm rv r;obtain⟨ms,rfl,pms⟩:=zg8 deI zpz pd;have e2:=Reps.of_ints r';subst e2
   have ek:ks=ms:=by
    have hm:=qa rv';clear pm pms pw pd r' rv';generalize (out.map (·.2)).toList=l at hm a2
    induction a2 generalizing ms with
    |nil=>cases hm;rfl
    |cons h t ih=>
     cases hm with
     |cons i t' h'=>
      simp only[intK,Option.some.injEq]at h;subst h;rw[ih _ h']
   subst ek;have:=zaq pms (pw.imp λh=>by simpa[intK,KeyOrd.kle]using h);exact fin out h' p e _ _ pm rv' r' hp g k (by rw[this];exact q)
 ·have rf:=za6 I r rv
  have hk:∀v∈us,∃k,(zc6 s.heap).keyOf v=some k:=λv hv=>by
   obtain⟨t,_,h⟩:=rf.mem hv;exact⟨t,zbt h⟩
  refine ze2 (κ:=zc6 s.heap) (kd:=tuples' true) hT ho hc hd zu (by rw[<-rv.length];exact h64) (λA' h' _ k=>zj4 k) (za5 hk) (λh2 A' E' h' Q' k q=>zev (rf.imp λ_ _ h=>h.keep k) hne h2 q) λout h' p e p1 p2 hp g k=>?_;obtain⟨pm,ks,a2,pw⟩:=zew p1 p2 hk;obtain⟨vs',ds',rv',r',pd⟩:=zex pm rv r;obtain⟨ss,rfl,pms⟩:=zg8 deT ztf pd;have rf':=za6 I r' rv';have ek:ks=ss:=by
   clear pm pms pw r' rv' pd;generalize (out.map (·.2)).toList=l at rf' a2
   induction a2 generalizing ss with
   |nil=>cases rf';rfl
   |cons h t ih=>
    cases rf' with
    |cons h1 t1=>
     have:=zbt h1;rw[show(zc6 s.heap).keyOf _=kz s.heap _ from rfl,this]at h
     cases h;rw[ih _ t1]
  subst ek;have:=zis pms (pw.imp λh=>by simpa[zc6,KeyOrd.kle]using h);exact fin out h' p e _ _ pm rv' r' hp g k (by rw[this];exact q)
def zit:List D->(List D->Prop)->Prop
 |[.list xs],Q=>xs.length<64/\zfu xs Q
 |[.tuple xs],Q=>xs.length<64/\zfu xs Q
 |_,_=>False
theorem zfw:CallF X (.builtin "sorted") zit:=⟨λpins s σ H vs us ds Q I rv rd q=>by
 match ds,q,rd with
 |[.list xs],q,rd=>
  obtain⟨v,rfl,r⟩:=rd.one;obtain⟨a,vs,rfl,h,r⟩:=r.list.sq;obtain⟨u,rfl,r1⟩:=rv.one
  cases r1;obtain⟨its,rvs,pl,hz⟩:=I.list h;obtain⟨o,ho,hc,n,hd⟩:=pl.isList;exact zc8 I r rvs (.inl rfl) ho hc hd hz (by rw[<-r.length];exact q.1) q.2
 |[.tuple xs],q,rd=>
  obtain⟨v,rfl,r⟩:=rd.one;obtain⟨a,vs,rfl,h,r⟩:=r.tuple;obtain⟨u,rfl,r1⟩:=rv.one
  cases r1;obtain⟨its,rvs,⟨o,ho,hc,n,hd⟩,hz⟩:=I.tuple h;exact zc8 I r rvs (.inr rfl) ho hc hd hz (by rw[<-r.length];exact q.1) q.2⟩
end
end L2
namespace L2
open PySem PySem.Spec PyProof.Rows
end L2
namespace L2
open PySem PySem.Spec PyProof.Rows PySem.Builtin PySem.Builtin.Str
def tx(x:Str):List Nat:=x.cps.toList
def Dl(r:List Nat):Prop:=∀c t,r=c::t->c=44\/c=41\/c=93
theorem Dl.c{c:Nat}{r:List Nat}(h:c=44\/c=41\/c=93):Dl (c::r):=λa t e=>by
 rw[<-(List.cons.inj e).1];exact h
section
variable {xs ys:List D}{r r':List Nat}
end
end L2
namespace L2
open PySem PySem.Spec PyProof.Rows
section
variable {X:Cx}{e:Expr}{p pos:Pos}
end
section
variable {K:PySem.W.Frag}{H₀ H H':Hp}{σD:DSt}{σ:St}
theorem Nst.upd{b:Addr}{vs:List V}{ys:List D}(p:Pers H (upd H b (.lst vs)))(r:Reps K H ys vs):∀{xss:List (List D)}{as:List Addr}{k:Nat},as.Nodup->Nst K H xss as->as[k]?=some b->Nst K (upd H b (.lst vs)) (xss.set k ys) as
 |[],[],k,_,_,e=>by simp at e
 |xs::xss,c::as,0,nd,h,e=>by
  simp at e;subst e;rw[List.nodup_cons]at nd;exact⟨⟨vs,zp,r.mono p⟩,h.2.keep p λa ha u hu=>by rw[zn (λz=>nd.1 (by rw[<-z];exact ha))];exact hu⟩
 |xs::xss,c::as,k+1,nd,h,e=>by
  rw[List.nodup_cons]at nd;have e':as[k]?=some b:=by simpa using e
  obtain⟨⟨ws,e1,r1⟩,t⟩:=h;exact⟨⟨ws,by rw[zn (λz=>nd.1 (by rw[z];exact List.mem_of_getElem? e'))];exact e1,r1.mono p⟩,Nst.upd p r nd.2 t e'⟩
theorem DOk.setF{H1:Hp}(h:DOk K H₀ H1 σD σ)(s1:Same H1 H){o:O}{v:V}{f:List Addr}(n:∀a∈f,H1 a=none)(nf:f.Nodup)(r:RepO K H o v f)(i:Nat):DOk K H₀ H (σD.set i (some (.own o))) (σ.set i (some v)):=by
 obtain⟨s,fp,sl,nd,fr⟩:=id h;have lv:∀b∈fp,∀a∈f,b≠a:=λb hb a ha z=>by
  obtain⟨u,e1,_⟩:=sl.live b hb;rw[z,n a ha]at e1;cases e1
 obtain⟨s',fp',sl',_⟩:=id (h.after s1);have sl2:Slots K H₀ H σD σ fp:=sl.keep s1.pers (λh=>h.same s1) λb _ u e=>s1 b u e
 by_cases hi:i<σD.length
 ·obtain⟨g,g',e',sb⟩:=sl2.set (f:=f) (w:=some (.own o)) (v:=some v) (λt=>.own r t) i hi;refine⟨s',_,e',?_,λb hb=>?_⟩
  ·have nd2:=sb.nodup nd;rw[List.nodup_append]at nd2 ⊢;refine⟨nd2.1,?_,λx hx y hy=>?_⟩
   ·rw[List.nodup_append];exact⟨nf,nd2.2.1,λx hx y hy z=>lv y (sb.subset (List.mem_append_right _ hy)) x hx z.symm⟩
   ·rcases List.mem_append.mp hy with z|z
    ·exact lv x (sb.subset (List.mem_append_left _ hx)) y z
    ·exact nd2.2.2 x hx y z
  ·rcases List.mem_append.mp hb with z|z
   ·exact fr b (sb.subset (List.mem_append_left _ z))
   ·rcases List.mem_append.mp z with z|z
    ·cases q:H₀ b with
     |none=>rfl
     |some u=>have:=n b z;rw[s b u q]at this;cases this
    ·exact fr b (sb.subset (List.mem_append_right _ z))
 ·rw[List.set_eq_of_length_le (by omega),List.set_eq_of_length_le (by rw[<-sl2.length];omega)];exact⟨s',fp,sl2,nd,fr⟩
end
section
variable {X:Cx}{e e1 e2 e3:Expr}{pos:Pos}{te t3:DTE}{t1 t2:DTF}
theorem Nst.at:∀{K:PySem.W.Frag}{H:Hp}{xss:List (List D)}{as:List Addr}{k:Nat}{xs:List D},Nst K H xss as->xss[k]?=some xs->∃b vs,as[k]?=some b/\H b=some (.lst vs)/\Reps K H xs vs
 |_,_,_::_,b::_,0,_,h,e=>by
  simp at e;subst e;obtain⟨vs,e1,r⟩:=h.1;exact⟨b,vs,rfl,e1,r⟩
 |_,_,_::_,_::_,k+1,_,h,e=>by
  obtain⟨b,vs,h1,h2⟩:=Nst.at h.2 (k:=k) (by simpa using e);exact⟨b,vs,by simpa using h1,h2⟩
 |_,_,[],[],_,_,_,e=>by simp at e
def zvl(b:Bool):Value->Bool
 |.bool c=>c == b
 |_=>false
theorem zfx{bs:List Bool}{its:List Value}(r:Vals (bs.map V.bl) its)(k:Bool):its.countP (zvl k)=bs.count k/\∀y∈its,∃c,y=Value.bool c:=by
 induction bs generalizing its with
 |nil=>cases r;exact⟨rfl,λy hy=>by cases hy⟩
 |cons n ns ih=>
  cases r with
  |cons h t=>
   cases h;obtain⟨h1,h2⟩:=ih t;refine⟨by rw[List.countP_cons,h1,List.count_cons];rfl,λy hy=>?_⟩;rcases List.mem_cons.mp hy with rfl|hy
   ·exact⟨_,rfl⟩
   ·exact h2 y hy
theorem ziu:MtR X "list.count" (λx vs H Q=>∃(l:Addr) (bs:List Bool) (k:Bool),x=.ref l/\vs = [.bl k]/\SqL X.K H l (bs.map V.bl)/\Q (.int ((bs.count k:Nat):Int)) H):=by
 intro pins s σ H x vs v us Q I rx rv h;obtain⟨l,bs,k,rfl,rfl,hR,q⟩:=h
 cases rx;obtain⟨u,rfl,ru⟩:=rv.one
 cases ru;obtain⟨its,r,⟨⟨cls,dd,data,sl⟩,n,e,hc,hd,hdt⟩,z⟩:=I.list hR;simp only at hc hd hdt;subst hc hd hdt;obtain⟨h1,h2⟩:=zfx r k;refine call_meets F.slot_list_count ⟨_,e,rfl⟩ F.entry_list_count (F.args_list_count_2 _ _) (PySem.SeqAt.list_countAt l its.toArray n _ sl (.bool k) (zvl k)) ⟨e,λy hy=>?_,?_⟩
 ·obtain⟨c,rfl⟩:=h2 y (by simpa using hy);exact PySem.SeqAt.EqAt.bool_bool c k
 ·rw[List.toList_toArray,h1];exact⟨.int ((bs.count k:Nat):Int),H,I.tok _,⟨_,rfl⟩,q⟩
theorem zc9{K:PySem.W.Frag}{H:Hp}:∀{bs:List Bool}{vs:List V},Reps K H (bs.map PyData.bool) vs->vs=bs.map V.bl
 |[],_,r=>by cases r;rfl
 |n::ns,_,r=>by
  cases r with
  |cons r t=>
   cases r;rw[zc9 t];rfl
variable {o:Expr}{to:DTE}{apos cpos:Pos}
def zob(to te:DTE):DTE:=λσ Q=>to σ λd=>match d with
 |.list xs=>te σ λk=>match k with
  |.bool b=>∃(bs:List Bool),xs=bs.map PyData.bool/\Q (.int ((bs.count b:Nat):Int))
  |_=>False
 |_=>False
theorem zlk(ho:DV X o to)(ha:DE X e te)(hbase:attributeBase o "count" X.env (eval o X.env)=eval o X.env:=by rfl)
  (hfew:((backTo cpos (starEach [e] X.env)).all (λx=>!x.1) && (backToKw cpos (keywordEach [] X.env)).all (λx=>x.1.isSome) && decide (([e]:List Expr).length+([]:List Keyword).length+(if ([]:List Keyword).isEmpty then 0 else 1)<30))=true:=by rfl)
  (hline:(apos.endLine == cpos.line)=true:=by rfl) (hs:starEach [e] X.env=(false,eval e X.env)::starEach [] X.env:=by rfl) (hplain:(backTo cpos (starEach [] X.env)).any (·.1)=false:=by rfl) :
  DE X (.Call (.Attribute o "count" apos) [e] [] cpos) (zob to te) :=
 DE.of (zgp F.plainAttrs_list F.slot_list_count F.type_list_count ziu ho.pe (xz ha.pe vf hs) hbase hfew hline hs hplain) λσ H H₀ σD QD ok q=>⟨H₀,σD,_,ok,q,λv H1 d s1 r1 q1=>by
  cases d with
  |list xs=>
   obtain⟨a,vs,rfl,hR,rp⟩:=r1.list;refine⟨.inl ⟨rfl,vs,.inl hR⟩,H₀,σD,_,ok.after s1,q1,λv2 H2 d2 s2 r2 q2=>?_⟩
   cases d2 with
   |bool b=>
    obtain⟨bs,rfl,q3⟩:=q2
    cases r2;have e:=zc9 rp;subst e;refine⟨a,bs,b,rfl,rfl,?_,.int _,s1.trans s2,.int,q3⟩;rcases hR with h |⟨o,h⟩
    ·exact .inl (.inl (s2 _ _ h))
    ·exact .inl (.inr ⟨o,s2 _ _ h⟩)
   |_=>exact q2.elim
  |_=>exact q1.elim⟩
end
structure Sl(fs:List Addr)(e:Addr)(h h':Heap):Prop where
 keep:∀b o,h.get? b=some o->b≠e->b∉fs->h'.get? b=some o
 slot:∀b o,h.get? b=some o->b≠e->∃sl,h'.get? b=some { o with slots:=sl }
section
variable {M:Model}{A:Around}{E:Value->Shared->Prop}{s:Shared}{base:Heap}{env:Env}{outer:List Env}{L e:Addr}{Q:Unit->Shared->Prop}
end
section
variable {fs fs':List Addr}{H H1:Hp}{h h1 h2:Heap}{a:Addr}{P:Program}{w:World}
theorem Un.sl(u:Un fs [] H H1 h h1)(S:Sl fs' a h1 h2)(hf:∀b o,b∈fs'->h.get? b=some o->b∈fs)(ha:h.get? a=none):Un fs [] H H1 h h2 where
 keep:=λb o e n hb hx=>S.keep b o (u.keep b o e n hb hx) (λz=>by rw[z,ha]at e;cases e) λz=>hb (hf b o z e)
 slot:=λb o e n hb hx=>by
  obtain⟨sl,e1⟩:=u.slot b o e n hb hx;obtain⟨sl',e2⟩:=S.slot b _ e1 λz=>by rw[z,ha]at e;cases e
  exact⟨sl',e2⟩
 free:=u.free
 there:=λb o e hx=>by
  obtain⟨o',e1⟩:=u.there b o e hx;obtain⟨sl,e2⟩:=S.slot b _ e1 λz=>by rw[z,ha]at e;cases e
  exact⟨_,e2⟩
 tups:=u.tups
 frzs:=u.frzs
 tbls:=u.tbls
theorem HOk.sl(hok:HOk P w H1 h1)(S:Sl fs' a h1 h2)(hf:∀b∈fs',H1 b=none)(ha:H1 a=none):HOk P w H1 h2:=λb o e=>by
 have ne:∀c u,H1 c=some u->c≠a/\c∉fs':=λc u q=>⟨λz=>(by rw[z,ha]at q;cases q),λz=>by rw[hf c z]at q;cases q⟩
 refine(hok b o e).stay (λc u hc q=>?_) (λ_ q=>q) λ_ _ q=>q;rcases hc with rfl|hc
 ·exact S.keep c u q (ne c o e).1 (ne c o e).2
 ·exact S.keep c u q (ne c _ hc).1 (ne c _ hc).2
end
theorem ObjOk.ex{P:Program}{w:World}{H:Hp}{h:Heap}{a:Addr}{o:HO}(x:ObjOk P w H h a o):∃u,h.get? a=some u:=by
 cases o with
 |lst xs=>obtain⟨_,_,_,_,e⟩:=x;exact⟨_,e⟩
 |tup xs=>obtain⟨_,_,_,o,e,_⟩:=x;exact⟨_,e⟩
 |dK kvs=>obtain⟨_,_,_,_,o,_,_,e,_⟩:=x;exact⟨_,e⟩
 |dT kvs=>obtain⟨_,_,_,_,o,_,_,e,_⟩:=x;exact⟨_,e⟩
 |set S n=>obtain⟨o,_,_,_,e,_⟩:=x;exact⟨_,e⟩
 |ins C dx fs=>obtain⟨_,_,_,e,_⟩:=x;exact⟨_,e⟩
 |own y=>exact x
 |xd fs=>obtain⟨_,⟨_,_,_,e,_⟩,_⟩:=x;exact⟨_,e⟩
 |rng lo hi=>obtain⟨_,_,_,e⟩:=x;exact⟨_,e⟩
 |frz ob u=>exact⟨_,x.1⟩
 |tbl ps=>obtain⟨_,_,_,_,e,_⟩:=x;exact⟨_,e⟩
 |met f y=>exact⟨_,x⟩
 |ext φ=>exact x.2.1
structure Room0(k:Nat)(A:Around):Prop where
 dp:A.depth+3 * k+5<recursionLimit
 un:A.units+16 * k+200<cLine
 gd:A.guards=some []
theorem Room0.mono{j k:Nat}{A:Around}(r:Room0 k A)(h:j<=k):Room0 j A:=⟨by have:=r.dp;omega,by have:=r.un;omega,r.gd⟩
section
variable {X:Cx}{pins:List (Addr×Obj)}{σ:St}{H:Hp}{s:Shared}{e:Value}
end
structure FnH(P:Program)(w:World)(K:PySem.W.Frag)(mg:Str->Option Value)(base:Heap)(k:Nat)(f:Addr)(fd:FuncData)(ps:List Str)(sp:Sp):Prop where
 len:∀vs H Q E,sp vs H Q E->vs.length=ps.length
 run:∀(A:Around) (outer:List Env) (s:Shared) (H:Hp) (args:Args) (us:List Value) (vs:List V) (Q:VK) (E:XK),Room0 k A->Env0 P w K mg base A outer s H->BindsTo s fd args (ps.zip us)->Vals vs us->sp vs H Q E ->
  codeAny (model P w) A (.call (.ref f) args) (CR CX0 outer P w H s Q E) s
section
variable {P:Program}{w:World}{K:PySem.W.Frag}{mg:Str->Option Value}{base:Heap}
end
structure DSX(X:Cx)(st:Stmt)(t:DTS):Prop where
 run:∀(pins:List (Addr×Obj)) (s:Shared) (σ:St) (H:Hp) (σD:DSt) (Dn:vy),Inv X pins σ H s->DOk X.K X.H₀ H σD σ->t Dn σD->wpAny (model X.prog X.w) X.A (exec st X.env) (DSP X pins X.H₀ H Dn) X.xe s
structure DSXs(X:Cx)(st:List Stmt)(t:DTS):Prop where
 run:∀(pins:List (Addr×Obj)) (s:Shared) (σ:St) (H:Hp) (σD:DSt) (Dn:vy),Inv X pins σ H s->DOk X.K X.H₀ H σD σ->t Dn σD->wpAny (model X.prog X.w) X.A (execs st X.env) (DSP X pins X.H₀ H Dn) X.xe s
section
variable {X:Cx}{st:Stmt}{sts rest:List Stmt}{t u:DTS}{pos:Pos}
end
section
variable {P:Program}{w:World}{K:PySem.W.Frag}{mg:Str->Option Value}{base:Heap}{N:List Str}{qual:Str}{scope:Scope}{f:Addr}{cd:Value}{A:Around}{outer:List Env}{s:Shared}{H:Hp}{E:XK}
end
section
variable {P:Program}{w:World}{K:PySem.W.Frag}{mg:Str->Option Value}{base:Heap}
end
structure zwz(K:PySem.W.Frag)(CK C:Addr):Prop where
 sub:PySem.W.kitCls K (.ref C) (.ref CK)=some true
 bas:PySem.W.subIn K (.ref CK) (.type "BaseException")=some true
section
variable {X:Cx}{pins:List (Addr×Obj)}{σ:St}{H H₀:Hp}{s s':Shared}{E:XK}{e:Value}
end
section
variable {X:Cx}
end
end L2
namespace L2
open PySem PySem.Spec PyProof.Rows PySem.W
section
variable {prog:Program}{w:World}{A:Around}{E:Value->Shared->Prop}{s:Shared}{K:Frag}{x C:Addr}{ox:Obj}{od:Option Obj}
end
structure XIs(K:Frag)(C:Addr):Prop where
 ga:findIn K (.ref C) "__getattribute__" = some (some (.builtin "BaseException.__getattribute__"))
 hk:findIn K (.ref C) "__getattr__" = some none
 bas:mroIn K C (.type "BaseException")=some true
 dct:hasDictIn K C=true
 fnd:findIn K (.ref C) "__class__" = some (some (.builtin "object.__class__"))
 spc:specialIn K (.builtin "object.__class__") "__get__" = some (some (.builtin "getset_descriptor.__get__"))
 tks:takesIn K (.builtin "object.__class__")=some true
 mro:mroIn K C (.type "object")=some true
section
variable {X:Cx}{pins:List (Addr×Obj)}{σ:St}{H:Hp}{s:Shared}
def XDc(H:Hp)(od:Option Addr):Prop:=od=none\/∃d fs,od=some d/\H d=some (.xd fs)
theorem XDc.of{K:Frag}{x:Str×List (Str×Int)}{od:Option Addr}(h:(x.2 = []/\od=none)\/∃d,od=some d/\H d=some (.xd (x.2.map λp=>(p.1,V.int p.2)))):XDc H od:=by
 rcases h with h |⟨d,e,h⟩
 ·exact .inl h.2
 ·exact .inr ⟨d,_,e,h⟩
variable {e:Expr}{pos p:Pos}
variable {o:Expr}{to te:DTE}{apos cpos:Pos}
end
end L2
namespace L2
open PySem PySem.Spec PyProof.Rows PySem.W
section
variable {K:Frag}{C D:Addr}{t:Value}{b:Bool}
end
theorem ja{t R:DTS}{Dn:vy}{σ:DSt}(P:DSt->Prop)(h:∀N:DSt->Prop,(∀σ',P σ'->N σ')->t { Dn with nx:=N } σ)(k:∀σ',P σ'->R Dn σ'):zpq t R Dn σ:=h _ k
def zoc:DOp:=λa b Q=>match a,b with
 |.bool i,.bool j=>Q (.bool (!decide (i=j)))
 |_,_=>False
section
variable {X:Cx}
theorem zod:OpD X (compareOp .IsNot) zoc:=OpD.of zk6 λx y H a b Q ra rb q=>by
 cases a with
 |bool i=>
  cases b with
  |bool j=>
   have ra:=ra.rep (λxs z=>by cases z);have rb:=rb.rep (λxs z=>by cases z)
   cases ra
   cases rb;exact⟨i,j,rfl,rfl,.bool (!decide (i=j)),Same.refl _,.bl,q⟩
  |_=>exact q.elim
 |_=>exact q.elim
end
end L2
namespace L2
open PySem PySem.Spec PyProof.Rows
section
variable {X:Cx}
end
section
variable {K:PySem.W.Frag}{H₀ H:Hp}{σD:DSt}{σ:St}
theorem Slots.focus{fp:List Addr}(h:Slots K H₀ H σD σ fp){i:Nat}{o:O}(e:σD[i]?=some (some (.own o))):
  ∃v f g g',σ[i]?=some (some v)/\RepO K H o v f/\fp=g++(f++g')/\∀H' o' f',Pers H H'->(∀a,a∈g++g'->∀u,H a=some u->H' a=some u)->RepO K H' o' v f'->Slots K H₀ H' (clr (σD.set i (some (.own o')))) σ (g++(f'++g')):=by
 induction h generalizing i with
 |nil=>simp at e
 |none t ih=>
  cases i with
  |zero=>simp at e
  |succ i=>obtain⟨v,f,g,g',h1,h2,h3,h4⟩:=ih (i:=i) (by simpa using e);exact⟨v,f,g,g',by simpa using h1,h2,h3,λH' o' f' p k r=>.none (h4 H' o' f' p k r)⟩
 |val q t ih=>
  cases i with
  |zero=>simp at e
  |succ i=>obtain⟨v,f,g,g',h1,h2,h3,h4⟩:=ih (i:=i) (by simpa using e);exact⟨v,f,g,g',by simpa using h1,h2,h3,λH' o' f' p k r=>.val (q.mono p) (h4 H' o' f' p k r)⟩
 |vw q t ih=>
  cases i with
  |zero=>simp at e
  |succ i=>obtain⟨v,f,g,g',h1,h2,h3,h4⟩:=ih (i:=i) (by simpa using e);exact⟨v,f,g,g',by simpa using h1,h2,h3,λH' o' f' p k r=>.vw q (h4 H' o' f' p k r)⟩
 |vd q t ih=>
  cases i with
  |zero=>simp at e
  |succ i=>obtain⟨v,f,g,g',h1,h2,h3,h4⟩:=ih (i:=i) (by simpa using e);exact⟨v,f,g,g',by simpa using h1,h2,h3,λH' o' f' p k r=>.vd q (h4 H' o' f' p k r)⟩
 |exc q t ih=>
  cases i with
  |zero=>simp at e
  |succ i=>obtain⟨v,f,g,g',h1,h2,h3,h4⟩:=ih (i:=i) (by simpa using e);exact⟨v,f,g,g',by simpa using h1,h2,h3,λH' o' f' p k r=>.exc q (h4 H' o' f' p k r)⟩
 |scr q t ih=>
  cases i with
  |zero=>simp at e
  |succ i=>obtain⟨v,f,g,g',h1,h2,h3,h4⟩:=ih (i:=i) (by simpa using e);exact⟨v,f,g,g',by simpa using h1,h2,h3,λH' o' f' p k r=>.scr q (h4 H' o' f' p k r)⟩
 |pen q t ih=>
  cases i with
  |zero=>simp at e
  |succ i=>obtain⟨v,f,g,g',h1,h2,h3,h4⟩:=ih (i:=i) (by simpa using e);exact⟨v,f,g,g',by simpa using h1,h2,h3,λH' o' f' p k r=>.pen (p _ _ q rfl) (h4 H' o' f' p k r)⟩
 |tmp q t ih=>
  cases i with
  |zero=>simp at e
  |succ i=>obtain⟨v,f,g,g',h1,h2,h3,h4⟩:=ih (i:=i) (by simpa using e);exact⟨v,f,g,g',by simpa using h1,h2,h3,λH' o' f' p k r=>.none (h4 H' o' f' p k r)⟩
 |@own o0 v0 f0 ws wvs fp' q t ih=>
  cases i with
  |zero=>
   simp at e;subst e;refine⟨v0,f0,[],fp',rfl,q,rfl,λH' o' f' p k r=>?_⟩;rw[List.nil_append];exact .own r (t.keepC p λa ha u hu=>k a ha u hu)
  |succ i=>
   obtain⟨v,f,g,g',h1,h2,h3,h4⟩:=ih (i:=i) (by simpa using e);refine⟨v,f,f0++g,g',by simpa using h1,h2,by rw[h3,List.append_assoc],λH' o' f' p k r=>?_⟩;rw[List.append_assoc];refine .own (q.keep p λa ha u hu=>k a ?_ u hu) (h4 H' o' f' p (λa ha u hu=>k a ?_ u hu) r)
   ·exact List.mem_append_left _ (List.mem_append_left _ ha)
   ·rcases List.mem_append.mp ha with z|z
    ·exact List.mem_append_left _ (List.mem_append_right _ z)
    ·exact List.mem_append_right _ z
theorem DOk.focus(h:DOk K H₀ H σD σ){i:Nat}{o:O}(e:σD[i]?=some (some (.own o))):
  ∃v f,σ[i]?=some (some v)/\RepO K H o v f/\f.Nodup/\(∀a∈f,H₀ a=none)/\∀H' o' f',(∀a u,a∉f->H a=some u->H' a=some u)->f'.Nodup->(∀a∈f',a∈f\/H a=none)->RepO K H' o' v f' ->
   DOk K H₀ H' (clr (σD.set i (some (.own o')))) σ/\Pers H H':=by
 obtain⟨s,fp,sl,nd,fr⟩:=h;obtain⟨v,f,g,g',h1,h2,rfl,h4⟩:=sl.focus e;have nd':=nd;rw[List.nodup_append,List.nodup_append]at nd';obtain⟨ng,⟨nf,ng',dfg'⟩,dg⟩:=nd';have inf:∀a∈f,a∈g++(f++g'):=λa ha=>List.mem_append_right _ (List.mem_append_left _ ha);refine⟨v,f,h1,h2,nf,λa ha=>fr a (inf a ha),λH' o' f' k nf' hf' r=>?_⟩;have pr:Pers H H':=λa u ha hp=>k a u (λz=>by obtain⟨w,e1,e2⟩:=h2.live a z;rw[ha]at e1;cases e1;rw[e2]at hp;cases hp) ha;have off:∀a,a∈g++g'->a∉f:=λa ha z=>by
  rcases List.mem_append.mp ha with y|y
  ·exact dg a y a (List.mem_append_left _ z) rfl
  ·exact dfg' a z a y rfl
 have lv:∀a,a∈g++g'->H a≠none:=λa ha z=>by
  obtain⟨w,e1,_⟩:=sl.live a (by rcases List.mem_append.mp ha with y|y;exact List.mem_append_left _ y;exact List.mem_append_right _ (List.mem_append_right _ y));rw[z]at e1
  cases e1
 refine⟨⟨λa u ha=>k a u (λz=>by rw[fr a (inf a z)]at ha;cases ha) (s a u ha),_,h4 H' o' f' pr (λa ha u hu=>k a u (off a ha) hu) r,?_,λa ha=>?_⟩,pr⟩
 ·have nq:∀x∈g++g',∀y∈f',x≠y:=λx hx y hy z=>by
   subst z;rcases hf' x hy with q|q
   ·exact off x hx q
   ·exact lv x hx q
  rw[List.nodup_append,List.nodup_append];refine⟨ng,⟨nf',ng',λx hx y hy z=>nq y (List.mem_append_right _ hy) x hx z.symm⟩,λx hx y hy=>?_⟩;rcases List.mem_append.mp hy with q|q
  ·exact nq x (List.mem_append_left _ hx) y q
  ·exact dg x hx y (List.mem_append_right _ q)
 ·rcases List.mem_append.mp ha with q|q
  ·exact fr a (List.mem_append_left _ q)
  ·rcases List.mem_append.mp q with q|q
   ·rcases hf' a q with z|z
    ·exact fr a (inf a z)
    ·cases y:H₀ a with
     |none=>rfl
     |some u=>rw[s a u y]at z;cases z
   ·exact fr a (List.mem_append_right _ (List.mem_append_right _ q))
def O.bare:O->O
 |.anc _ o=>o.bare
 |o=>o
def O.with:O->O->O
 |.anc a o,o'=>.anc a (o.with o')
 |_,o'=>o'
theorem RepO.bare{o:O}{v:V}{f:List Addr}(h:RepO K H o v f):RepO K H o.bare v f:=by
 induction o with
 |anc a o ih=>exact ih h.2
 |_=>exact h
theorem RepO.ref{o:O}{v:V}{f:List Addr}(h:RepO K H o v f):∃a,v=.ref a:=by
 induction o with
 |anc a o ih=>exact⟨a,h.1⟩
 |lst xs=>obtain⟨a,_,e,_⟩:=h;exact⟨a,e⟩
 |dct xs=>obtain⟨a,_,e,_⟩:=h;exact⟨a,e⟩
 |nst xs ds=>obtain⟨a,_,_,e,_⟩:=h;exact⟨a,e⟩
 |ins c fs=>obtain⟨a,_,_,_,e,_⟩:=h;exact⟨a,e⟩
 |mix ms=>obtain⟨a,_,_,e,_⟩:=h;exact⟨a,e⟩
 |tk ks=>obtain⟨a,e,_⟩:=h;exact⟨a,e⟩
 |dcT ks=>obtain⟨a,_,e,_⟩:=h;exact⟨a,e⟩
theorem RepO.with{H':Hp}{o o':O}{v:V}{f f':List Addr}(h:RepO K H o v f)(h':RepO K H' o' v f'):RepO K H' (o.with o') v f':=by
 induction o with
 |anc a o ih=>exact⟨h.1,ih h.2⟩
 |_=>exact h'
end
def W.plain:W->Bool
 |.val _=>true
 |.pen=>true
 |_=>false
theorem RepWs.mono{K:PySem.W.Frag}{H H':Hp}(p:Pers H H'){ws:List W}{vs:List V}(h:∀w∈ws,w.plain=true)(q:RepWs K H ws vs):RepWs K H' ws vs:=by
 induction q with
 |nil=>exact .nil
 |@cons w _ _ _ r t ih=>
  refine .cons ?_ (ih λx hx=>h x (List.mem_cons_of_mem _ hx));have:=h w List.mem_cons_self
  cases w with
  |val d=>exact Rep.mono p r
  |pen=>obtain⟨a,rfl,r⟩:=r;exact⟨a,rfl,p _ _ r rfl⟩
  |_=>cases this
abbrev zda:=List W->O->List W->(D->O->Prop)->Prop
structure zj8 where
 nx:DSt->Prop
 rt:D->DSt->Prop
 bk:DSt->Prop:=λ_=>False
 ct:DSt->Prop:=λ_=>False
abbrev GTS:=zj8->DSt->Prop
def zoe(K:PySem.W.Frag)(H₀ H:Hp)(Gn:zj8):zhv where
 nx:=λσ' H'=>∃σD',DOk K H₀ H' σD' σ'/\Pers H H'/\Gn.nx σD'
 bk:=λσ' H'=>∃σD',DOk K H₀ H' σD' σ'/\Pers H H'/\Gn.bk σD'
 ct:=λσ' H'=>∃σD',DOk K H₀ H' σD' σ'/\Pers H H'/\Gn.ct σD'
 rt:=λv H'=>∃σ' σD' d,DOk K H₀ H' σD' σ'/\Rep K H' d v/\Gn.rt d σD'
structure DGS(X:Cx)(st:Stmt)(t:GTS):Prop where
 run:∀(pins:List (Addr×Obj)) (s:Shared) (σ:St) (H H₀:Hp) (σD:DSt) (Gn:zj8),Inv X pins σ H s->DOk X.K H₀ H σD σ->t Gn σD->wpAny (model X.prog X.w) X.A (exec st X.env) (SP X pins (zoe X.K H₀ H Gn)) X.xe s
structure DGSs(X:Cx)(st:List Stmt)(t:GTS):Prop where
 run:∀(pins:List (Addr×Obj)) (s:Shared) (σ:St) (H H₀:Hp) (σD:DSt) (Gn:zj8),Inv X pins σ H s->DOk X.K H₀ H σD σ->t Gn σD->wpAny (model X.prog X.w) X.A (execs st X.env) (SP X pins (zoe X.K H₀ H Gn)) X.xe s
section
variable {X:Cx}{st:Stmt}{sts rest:List Stmt}{t u:GTS}{e:Expr}{te:DTE}{pos:Pos}
theorem DGS.of{t':TS}(h:PS X st t')(k:∀σ H H₀ σD Gn,DOk X.K H₀ H σD σ->t Gn σD->t' (zoe X.K H₀ H Gn) σ H):DGS X st t :=
 ⟨λpins s σ H H₀ σD Gn I ok q=>h pins s σ H _ I (k σ H H₀ σD Gn ok q)⟩
def zwl(K:PySem.W.Frag)(t:GTS):TS:=λE σ H=>∃H₀ σD Gn,DOk K H₀ H σD σ/\t Gn σD/\(∀σ' H' σD',DOk K H₀ H' σD' σ'->Pers H H'->Gn.nx σD'->E.nx σ' H')/\(∀v H' σ' σD' d,DOk K H₀ H' σD' σ'->Rep K H' d v->Gn.rt d σD'->E.rt v H') /\
 (∀σ' H' σD',DOk K H₀ H' σD' σ'->Pers H H'->Gn.bk σD'->E.bk σ' H')/\∀σ' H' σD',DOk K H₀ H' σD' σ'->Pers H H'->Gn.ct σD'->E.ct σ' H'
theorem DGSs.ps(h:DGSs X sts t):PSs X sts (zwl X.K t):=by
 intro pins s σ H E I zz;obtain⟨H₀,σD,Gn,ok,q,k1,k2,k3,k4⟩:=zz;refine thn (h.run pins s σ H H₀ σD Gn I ok q) λf s' z=>?_
 cases f with
 |next=>obtain⟨a,b,e1,c,e2,e3,e4⟩:=z;exact⟨a,b,e1,k1 a b c e2 e3 e4⟩
 |brk=>obtain⟨a,b,e1,c,e2,e3,e4⟩:=z;exact⟨a,b,e1,k3 a b c e2 e3 e4⟩
 |cont=>obtain⟨a,b,e1,c,e2,e3,e4⟩:=z;exact⟨a,b,e1,k4 a b c e2 e3 e4⟩
 |ret u=>obtain⟨v,a,b,e1,e2,σ',σD',d,e3,e4,e5⟩:=z;exact⟨v,a,b,e1,e2,k2 v b σ' σD' d e3 e4 e5⟩
end
abbrev zdb:=DSt->(List W->List W->Prop)->Prop
structure DPG(X:Cx)(i:Nat)(es:List Expr)(t:zdb):Prop where
 run:∀(pos:Pos) (pins:List (Addr×Obj)) (s:Shared) (σ:St) (H H₀:Hp) (σD:DSt) (Q:List W->List W->Prop),Inv X pins σ H s->DOk X.K H₀ H σD σ->t σD Q ->
  wpAny (model X.prog X.w) X.A (spliced (backTo pos (starEach es X.env))) (λus s'=>∃vp v vq H' wp wq,Inv X pins σ H' s'/\Vals (vp++v::vq) us/\Same H H'/\σ[i]?=some (some v)/\RepWs X.K H' wp vp/\RepWs X.K H' wq vq/\Q wp wq) X.xe s
section
variable {X:Cx}{e:Expr}{es:List Expr}{k k' i j:Nat}{x:Str}{ps:List Str}{sp:zda}{t:zdb}{p pos:Pos}
def ziv(K:PySem.W.Frag)(i:Nat)(sp:zda)(t:zdb):TE:=λσ H Q=>∃H₀ σD o QD,DOk K H₀ H σD σ/\σD[i]?=some (some (.own o))/\t σD (λwp wq=>wp.all W.plain=true/\wq.all W.plain=true/\sp wp o.bare wq QD) /\
 ∀v H' d o',DOk K H₀ H' (clr (σD.set i (some (.own (o.with o'))))) σ->Pers H H'->Rep K H' d v->QD d o'->Q v H'
end
section
variable {P:Program}{w:World}{K:PySem.W.Frag}{mg:Str->Option Value}{base:Heap}
end
section
variable {X:Cx}{e ie:Expr}{pos:Pos}{te ta:DTE}{t1 t2:DTF}
end
section
variable {X:Cx}{a b:Expr}{rest:List Expr}{pos:Pos}
end
section
variable {K:PySem.W.Frag}{H:Hp}
end
section
variable {X:Cx}{e:Expr}{es:List Expr}{te:DTE}{t:DTP}{pos:Pos}{c f m x:Str}{C g:Addr}{i j k k':Nat}{fd:FuncData}{ps:List Str}{sp:zda}
end
section
variable {X:Cx}{e:Expr}{pos:Pos}{i j:Nat}{sp:zda}{t:zdb}{a b:List Stmt}{ta tb:DTS}
def zdc(i:Nat)(sp:zda)(t:zdb)(N:D->DSt->Prop):DSt->Prop:=λσ=>match σ[i]? with
 |some (some (.own o))=>t σ λwp wq=>wp.all W.plain=true/\wq.all W.plain=true/\sp wp o.bare wq λd o'=>N d (clr (σ.set i (some (.own (o.with o')))))
 |_=>False
theorem ziw{K:PySem.W.Frag}{H H₀:Hp}{σD:DSt}{σ:St}{N:D->DSt->Prop}{Q:VK}(ok:DOk K H₀ H σD σ)(q:zdc i sp t N σD)(kq:∀v H' d σD',DOk K H₀ H' σD' σ->Pers H H'->Rep K H' d v->N d σD'->Q v H'):ziv K i sp t σ H Q:=by
 unfold zdc at q
 split at q
 ·next o eo=>exact⟨H₀,σD,o,_,ok,eo,q,λv H' d o' ok' pr rp qd=>kq v H' d _ ok' pr rp qd⟩
 ·exact q.elim
end
section
variable {X:Cx}{tg e:Expr}{te:DTE}
end
section
variable {X:Cx}{e:Expr}{te:DTE}{pos p2:Pos}{lo hi:Option Expr}{tl th:DTO}
end
section
variable {X:Cx}
variable {o e:Expr}{to te:DTE}{apos cpos:Pos}{name:Str}{id:String}{gV:Str->Str->V}{gD:Str->Str->D}
end
open PySem.Builtin PySem.Builtin.Str
section
variable {X:Cx}
variable {o e:Expr}{to te:DTE}{apos cpos:Pos}
end
end L2
namespace L2
open PySem PySem.Spec PyProof.Rows
open PySem.Builtin PySem.Builtin.Str
section
variable {X:Cx}
end
end L2
namespace L2
open PySem PySem.Spec PyProof.Rows
section
variable {X:Cx}
end
section
variable {X:Cx}{e:Expr}{te:DTE}{pos tpos px py ps:Pos}{k i j:Nat}{x y:Str}
end
end L2
namespace L2
open PySem PySem.Spec PyProof.Rows PySem.NumText
structure zw0(x:Str):Prop where
 dig:∀c∈x.cps.toList,48<=c/\c<=57
 ne:x.cps.toList ≠ []
 le:x.length<=10
 hd:x=Str.ofString "0" \/ x.cps.toList.head?≠some 48
end L2
namespace L2
open PySem PySem.Spec PyProof.Rows
section
variable {X:Cx}{e:Expr}{es:List Expr}
end
section
variable {X:Cx}{k v e f:Expr}{tk tv te tf:DTE}{apos cpos dpos:Pos}
end
section
variable {X:Cx}{k e f:Expr}{tk te tf:DTE}{p1 pos pos':Pos}
end
def MxAt(K:PySem.W.Frag)(H:Hp)(bs:List Addr)(u:V):Mx->Prop
 |.v d=>Rep K H d u
 |.l xs=>∃b vs,u=.ref b/\b∈bs/\H b=some (.lst vs)/\Reps K H xs vs
section
variable {K:PySem.W.Frag}{H H':Hp}
theorem MxAt.more{bs cs:List Addr}{u:V}{m:Mx}(h:MxAt K H bs u m)(k:∀b∈bs,b∈cs):MxAt K H cs u m:=by
 cases m with
 |v d=>exact h
 |l xs=>obtain⟨b,vs,e1,e2,e3⟩:=h;exact⟨b,vs,e1,k b e2,e3⟩
theorem MxR.at:∀{ms:List Mx}{us:List V}{bs:List Addr}{k:Nat}{m:Mx},MxR K H ms us bs->ms[k]?=some m->∃u,us[k]?=some u/\MxAt K H bs u m
 |[],_,_,k,m,_,e=>by simp at e
 |.v d::ms,u::us,bs,0,m,h,e=>by cases e;exact⟨u,rfl,h.1⟩
 |.v d::ms,u::us,bs,k+1,m,h,e=>by
  obtain⟨w,e1,r⟩:=MxR.at (k:=k) h.2 (by simpa using e);exact⟨w,by simpa using e1,r⟩
 |.l xs::ms,u::us,b::bs,0,m,h,e=>by
  cases e;obtain⟨e0,⟨vs,e1,r⟩,_⟩:=h;exact⟨u,rfl,b,vs,e0,List.mem_cons_self,e1,r⟩
 |.l xs::ms,u::us,b::bs,k+1,m,h,e=>by
  obtain⟨w,e1,r⟩:=MxR.at (k:=k) h.2.2 (by simpa using e);exact⟨w,by simpa using e1,r.more λc hc=>List.mem_cons_of_mem _ hc⟩
theorem MxR.setV{d:D}{w:V}(r:Rep K H d w):∀{ms:List Mx}{us:List V}{bs:List Addr}{k:Nat}{d0:D},MxR K H ms us bs->ms[k]?=some (.v d0)->MxR K H (ms.set k (.v d)) (us.set k w) bs
 |[],_,_,k,d0,_,e=>by simp at e
 |.v _::ms,u::us,bs,0,d0,h,e=>⟨r,h.2⟩
 |.v _::ms,u::us,bs,k+1,d0,h,e=>⟨h.1,MxR.setV r h.2 (by simpa using e)⟩
 |.l xs::ms,u::us,b::bs,0,d0,h,e=>by cases e
 |.l xs::ms,u::us,b::bs,k+1,d0,h,e=>⟨h.1,h.2.1,MxR.setV r h.2.2 (by simpa using e)⟩
end
section
variable {X:Cx}{e ie:Expr}{te ti:DTE}{tf:DTF}{pos:Pos}
end
section
variable {X:Cx}{tg iter elt:Expr}{ifs:List Expr}{scope:Scope}{cl:List (Str×Addr)}{N' capt:List Str}{k:Nat}{js is:List Nat}{ti:DTF}{g:DTG}{tt:DTT}{tf:DTF}{pos:Pos}
end
end L2
namespace SV
open PySem
structure Bel(xs:Array Nat)(j b:Nat):Prop where
 le:b<=xs.size
 lo:∀i,i<b->xs.getD i 0<j
 hi:∀i,b<=i->i<xs.size->j<=xs.getD i 0
theorem mem_getD{xs:Array Nat}{x:Nat}(h:x∈xs.toList):∃i,i<xs.size/\xs.getD i 0=x:=by
 obtain⟨i,hi,e⟩:=List.getElem_of_mem h;have hi':i<xs.size:=by simpa using hi
 exact⟨i,hi',by simpa[Array.getD,hi']using e⟩
def Not(xs:Array Nat)(j:Nat):Prop:=xs[SetTable.below xs j]?≠some j
end SV
namespace SV
open PySem
end SV
namespace PySem
section
variable {prog:Program}{w:World}{K:Type}[DecidableEq K](knd:KeyKind prog w K)
variable {knd}
variable {A:Around}{E:Value->Shared->Prop}{s:Shared}
end
section
open PyProof.Rows
variable {prog:Program}{w:World}{A:Around}{R:Result->Shared->Prop}{I:Addr}{fp wr:List Addr}{G:Array GenState->Array GenState->Prop}{n:Nat}{P:Nat->Value->Prop}{St:Nat->Shared->Prop}
end
section
variable {prog:Program}{w:World}{A:Around}{E:Value->Shared->Prop}{s:Shared}
end
end PySem
namespace PySem
namespace F
end F
section
variable {prog:Program}{w:World}{A:Around}{E:Value->Shared->Prop}{s:Shared}{a:Addr}{o:Obj}{es:Array (Int×Value)}{ep:Nat}{t:SetTable}
end
end PySem
namespace PySem
section
variable {prog:Program}{w:World}{A:Around}{E:Value->Shared->Prop}{s:Shared}{a:Addr}{o:Obj}{es:Array (Int×Value)}{ep:Nat}{t:SetTable}
def IsSI(h:Heap)(I:Addr)(fs:Array Value):Prop:=∃u,h.get? I=some u/\u.cls=.type "set_iterator" /\ u.data=.fields fs
theorem zdd{α:Type}:∀{xs:List α}{i:Nat} (h:i<xs.length),(xs[i]::xs.eraseIdx i).Perm xs
 |x::xs,0,h=>by simp
 |x::xs,i+1,h=>by
  have:=zdd (xs:=xs) (i:=i) (by simpa using h);simp only[List.getElem_cons_succ,List.eraseIdx_cons_succ];exact(List.Perm.swap _ _ _).trans (this.cons x)
end
end PySem
namespace SV
open PySem
def sl(t:SetTable)(i:Nat):Nat:=if i=0 then 0 else t.place.getD (i-1) 0+1
theorem zj9{α:Type}{next:Nat->Nat}:∀(fuel k:Nat) (left:List α) (out:Array α),fuel=left.length->(pickOrder.go next fuel k left out).toList.Perm (out.toList++left)
 |0,k,left,out,h=>by
  cases left with
  |nil=>simp[pickOrder.go]
  |cons x l=>cases h
 |fuel+1,k,left,out,h=>by
  have hi:next k % left.length<left.length:=Nat.mod_lt _ (by omega);unfold pickOrder.go;rw[List.getElem?_eq_getElem hi];dsimp only;refine(zj9 fuel (k+1) _ _ (by rw[List.length_eraseIdx_of_lt hi];omega)).trans ?_;rw[Array.toList_push,List.append_assoc];exact List.Perm.append_left _ (zdd hi)
theorem pick_perm{α:Type}(next:Nat->Nat)(xs:Array α):(pickOrder next xs).toList.Perm xs.toList:=by
 have:=zj9 (next:=next) xs.size 0 xs.toList #[] (by simp);simpa[pickOrder]using this
end SV
namespace PySem
section
variable {prog:Program}{w:World}{A:Around}{E:Value->Shared->Prop}{s:Shared}{a:Addr}{o:Obj}{es:Array (Int×Value)}{ep:Nat}{t:SetTable}
theorem IsSI.at{h h':Heap}{I:Addr}{fs:Array Value}(x:IsSI h I fs)(e:∀o,h.get? I=some o->h'.get? I=some o):IsSI h' I fs:=let ⟨u,hu,r⟩:=x;⟨u,e _ hu,r⟩
end
end PySem
namespace SV
open PySem
section
variable {prog:Program}{w:World}{A:Around}{E:Value->Shared->Prop}{s:Shared}{a:Addr}{o:Obj}{es:Array (Int×Value)}{ep:Nat}{t:SetTable}
end
end SV
namespace SQ
open PySem PyProof.Rows
theorem IntsAre.mk:∀{us:List Value},(∀v∈us,∃n t,v=.int n t)->∃ns,IntsAre us ns
 |[],_=>⟨[],.nil⟩
 |u::us,h=>by
  obtain⟨n,t,rfl⟩:=h u List.mem_cons_self;obtain⟨ns,e⟩:=IntsAre.mk λv hv=>h v (List.mem_cons_of_mem _ hv);exact⟨n::ns,.cons n t e⟩
section
variable {prog:Program}{w:World}{A:Around}{E:Value->Shared->Prop}{s:Shared}{a:Addr}{o:Obj}{es:Array (Int×Value)}{ep:Nat}{t:SetTable}
end
end SQ
namespace L2
open PySem PySem.Spec PyProof.Rows SQ
section
variable {X:Cx}{a:Expr}{p pos p2 pos2:Pos}
end
end L2
namespace SQ
open PySem PyProof.Rows
section
variable {prog:Program}{w:World}{A:Around}{E:Value->Shared->Prop}{s:Shared}{a:Addr}{o:Obj}{es:Array (Int×Value)}{ep:Nat}{t:SetTable}
end
end SQ
namespace L2
open PySem PySem.Spec PyProof.Rows SQ
section
variable {X:Cx}{a:Expr}{p pos p2 pos2:Pos}
end
end L2
namespace L2
open PySem PySem.Spec PyProof.Rows
theorem zix{pos:Pos}{a b:Int}{c cv:Value}(l:List Value)(h:TriplesOk l)(e:codeAmong pos (l ++ [rawInt a,rawInt b,c])=some cv):codeAmong pos l=some cv\/cv=c:=by
 fun_induction TriplesOk l with
 |case1=>
  simp only[List.nil_append,codeAmong,rawInt]at e
  split at e
  ·exact .inr (Option.some.inj e).symm
  ·cases e
 |case2 a' t b' u x rest ih=>
  simp only[List.cons_append,codeAmong]at e ⊢
  split at e
  ·rename_i z;rw[if_pos z];exact .inl e
  ·rename_i z;rw[if_neg z];exact ih h e
 |case3 l h1 h2=>exact h.elim
theorem zka{x y:Value}{more:Array Value}(h : #[x]++more = #[y]):x=y:=by
 have:=congrArg Array.toList h;simp at this;exact this.1
def jq(mg:Str->Option Value)(base:Heap):Prop:=∃bm o,mg "__builtins__" = some (.ref bm)/\bm≠builtinsNs/\base.get? bm=some o/\o.cls=.type "module" /\ o.dict=some builtinsNs/\o.data=.plain
def j9(q:Str)(P:Addr)(H:Hp):Prop:=∃t more,H P=some (.tbl (#[.str q t]++more))
section
variable {X:Cx}{pins:List (Addr×Obj)}{σ:St}{H:Hp}{s:Shared}{P c:Addr}{q:Str}
theorem Inv.tabAt(I:Inv X pins σ H s)(h:j9 q P X.H₀):j9 q P H:=by
 obtain⟨t,m,e⟩:=h;obtain⟨m2,e2⟩:=I.base.tbls _ _ e;exact⟨t,m++m2,by rw[e2,Array.append_assoc]⟩
theorem Inv.tabOk(I:Inv X pins σ H s)(h:j9 q P H):∃ps:Array Value,s.heap.get? P=some { cls:=.none,data:=.fields ps }/\TriplesOk ps.toList /\
  ∀pos cv,codeAmong pos ps.toList=some cv->∃c' oc u,cv=.ref c'/\H c'=some (.frz oc u)/\zi9 oc q:=by
 obtain⟨t,m,e⟩:=h;obtain⟨ps,q',t',lab,r1,r2,r3⟩:=(show zgg H s.heap P _ from I.hok P _ e)
 have:=zka lab
 cases this;exact⟨ps,r1,r2,r3⟩
theorem Inv.bltAt(I:Inv X pins σ H s)(hB:jq X.mg X.base)(hP:H P≠none):s.heap.BuiltinsAt X.mg P:=by
 obtain⟨bm,o,h1,h2,h3,h4,h5,h6⟩:=hB;refine⟨bm,o,h1,h2,λz=>?_,λz=>?_,(I.bs _ _ h3).1,h4,h5,h6⟩
 ·obtain⟨o',es,ep,e,d,_⟩:=I.mod.glob;rw[<-z,h3]at e
  cases e;rw[h6]at d
  cases d
 ·exact hP (z ▸ (I.bs _ _ h3).2)
theorem Inv.globNe(I:Inv X pins σ H s)(hP:H P≠none):mainGlobals≠P:=λz=>by
 obtain⟨o',es,ep,e,d,_⟩:=I.mod.glob;exact hP (z ▸ (I.bs _ _ e).2)
end
section
variable {X:Cx}{pins:List (Addr×Obj)}{σ:St}{H:Hp}{a it S f:Addr}{xs:List V}{kf:Nat->Int}{kwd:List (Str×Value)}{R:Value->Shared->Prop}
structure zw1(X:Cx)(pins:List (Addr×Obj))(σ:St)(H:Hp)(a it S:Addr)(xs:List V)(kf:Nat->Int)(j i:Nat)(H1:Hp)(s:Shared):Prop where
 I:Inv X pins σ H1 s
 sm:Same H H1
 st:s.heap.IsTupleIter it a j
 f1:FpOk X pins H1 it
 f2:FpOk X pins H1 S
 ne:it≠S
 best:∃vb tb c x,s.heap.get? S=some (seqObj "list" #[vb,.int (kf i) tb] c)/\xs[i]?=some x/\RelV x vb
 lt:i<j
 mx:∀j',j' < j->kf j'<=kf i/\(j' < i->kf j' < kf i)
theorem FpOk.at{b:Addr}{H1 H2:Hp}(h:FpOk X pins H1 b)(n:H2 b=none):FpOk X pins H2 b:=⟨n,h.2⟩
theorem FpOk.inv{b:Addr}{H1:Hp}{s:Shared}{h':Heap}{t':Nat}(h:FpOk X pins H1 b)(I:Inv X pins σ H1 s)(k:∀c o,c≠b->s.heap.get? c=some o->h'.get? c=some o):Inv X pins σ H1 { s with heap:=h',toks:=t' } :=
 I.turned k h.1 h.2.1 h.2.2.2.1 h.2.2.2.2.1 h.2.2.2.2.2
theorem zwm{H1:Hp}{s:Shared}{oi os:Obj}(I:Inv X pins σ H1 s)(h1:FpOk X pins H1 it)(h2:FpOk X pins H1 S)(g1:s.heap.get? it=some oi)(g2:s.heap.get? S=some os)(n1:∀v,oi.data ≠ .cell v)(n2:∀v,os.data ≠ .cell v):
  Inv X (pins ++ [(it,oi),(S,os)]) σ H1 s:=I.pins_of λp hp=>by
 rcases List.mem_append.mp hp with hp|hp
 ·exact I.pin p (List.mem_append_right _ hp)
 ·rcases List.mem_cons.mp hp with rfl|hp
  ·exact⟨g1,h1.1,h1.2.1,h1.2.2.1,n1⟩
  ·rw[List.mem_singleton.mp hp];exact⟨g2,h2.1,h2.2.1,h2.2.2.1,n2⟩
end
section
variable {X:Cx}{pins:List (Addr×Obj)}{σ:St}{H:Hp}{a f:Addr}{xs:List V}{kf:Nat->Int}{R:Value->Shared->Prop}{s:Shared}
end
section
variable {X:Cx}{a body:Expr}{ta:DTF}{tb:DTE}{p pos kp kp2 lp cp:Pos}{k:Nat}{P c:Addr}{q y:Str}{params:Arguments}{scope:Scope}{N:List Str}
end
def qm(q:Str)(T:Addr)(sp:Sp):Sp:=λvs H Q E=>j9 q T H/\sp vs H Q E
section
variable {X:Cx}{e:Expr}{es:List Expr}{k k':Nat}{x q:Str}{T:Addr}{ps:List Str}{sp:DSp}{t:DTP}{p pos:Pos}
theorem zof{sp:Sp}{t:TA}(C:yg X.prog X.w X.K X.mg X.base k x ps (qm q T sp))(hT:j9 q T X.H₀)(hr:Room k' X.A)(hg:Gl X x)(ha:PA X (e::es) t)(hk:k<=k')
  (hdb:(x ==("__debug__" : Str))=false) (he:starEach (e::es) X.env=(false,eval e X.env)::starEach es X.env) (hpl:(backTo pos (starEach es X.env)).any (·.1)=false):PE X (.Call (.Name x p) (e::es) [] pos) (zmn sp [] E0 t):=λpins s σ H Q I h=>by
 obtain⟨f,fd,F,b,kp,m⟩:=C;refine wpAny_Call_Name_kw (ze9 I hg m ?_ hdb);refine PySem.W.callWith_K (h₀:=X.base) I.ok.mod.kin kp (thn (ha pos pins s σ H _ I h) λus s1 ⟨vs,H1,I1,r,z⟩=>⟨I1.kIn,?_⟩) he hpl;exact zmo F (hr.mono hk) b .nil zqy I1 r ⟨I1.tabAt hT,z⟩
theorem zll{pins:List (Addr×Obj)}{σ:St}{H H₀:Hp}{σD:DSt}{s:Shared}{Q:Ret->Prop}(C:yg X.prog X.w X.K X.mg X.base k x ps (qm q T (yc X.K sp)))(hT:j9 q T X.H₀)(hr:Room k' X.A)(hg:Gl X x)(ha:DPs X (e::es) t)(hk:k<=k')
  (hdb:(x ==("__debug__" : Str))=false) (he:starEach (e::es) X.env=(false,eval e X.env)::starEach es X.env) (hpl:(backTo pos (starEach es X.env)).any (·.1)=false) (I:Inv X pins σ H s) (ok:DOk X.K H₀ H σD σ) (z:t σD λws=>sp ws Q) :
  wpAny (model X.prog X.w) X.A (eval (.Call (.Name x p) (e::es) [] pos) X.env) (λu s'=>∃v H' r,Inv X pins σ H' s'/\RelV v u/\Same H H'/\zfp X.K H H' r v/\Q r) X.xe s:=by
 refine thn (zof C hT hr hg ha.pa hk hdb he hpl pins s σ H (λv H'=>∃r,Same H H'/\zfp X.K H H' r v/\Q r) I ?_) λu s' zq29=>by obtain⟨v,H',I',r,z,sm,rp,qd⟩:=zq29;exact⟨v,H',z,I',r,sm,rp,qd⟩
 refine⟨H₀,σD,_,ok,z,λvs H1 ws s1 r1 q1=>⟨ws,Q,by rw[List.append_nil];exact r1,q1,λv H' r s2 rp qd=>⟨r,s1.trans s2,?_,qd⟩⟩⟩
 cases r with
 |val d=>exact rp
 |new xs=>obtain⟨a,vs,e1,n,e2,r⟩:=rp;exact⟨a,vs,e1,s1.free n,e2,r⟩
theorem zhf(C:yg X.prog X.w X.K X.mg X.base k x ps (qm q T (yc X.K sp)))(hT:j9 q T X.H₀)(hr:Room k' X.A)(hg:Gl X x)(ha:DPs X (e::es) t)(hk:k<=k':=by decide)(hdb:(x ==("__debug__" : Str))=false:=by decide)
  (he:starEach (e::es) X.env=(false,eval e X.env)::starEach es X.env:=by rfl) (hpl:(backTo pos (starEach es X.env)).any (·.1)=false:=by rfl):DE X (.Call (.Name x p) (e::es) [] pos) (zeq sp t) :=
 ⟨λpins s σ H H₀ σD Q I ok z=>thn (zll C hT hr hg ha hk hdb he hpl I ok z) λu s' zq87=>by
  obtain⟨v,H',r,I',rv,sm,rp,qd⟩:=zq87
  cases r with
  |val d=>exact⟨v,H',d,I',rv,sm,rp,qd⟩
  |new xs=>
   obtain⟨a,vs,rfl,n,e,r⟩:=rp;obtain⟨H'',J,sm',r'⟩:=zal I' sm n e r;exact⟨.ref a,H'',.list xs,J,rv,sm',r',qd⟩⟩
end
section
variable {P:Program}{w:World}{K:PySem.W.Frag}{mg:Str->Option Value}{base:Heap}
theorem Fun.dokT{x qual q:Str}{T:Addr}{st:Stmt}{f:Addr}{fd:FuncData}{N ps:List Str}{k:Nat}{sp:DSp}(F:Fun K x qual st f fd)(S:z9 N ps (za st))(len:∀ws Q,sp ws Q->ws.length=ps.length)
  (hbody:∀(A:Around) (outer:List Env) (s:Shared) (H:Hp) (ws:List W) (Q:Ret->Prop) (E:XK),Room k (A.deeper (envOfC qual (za st) s.heap.objs.size f fd.code))->j9 q T H->sp ws Q ->
   ∃t,DSs (zgk CX0 P w K mg base N qual (za st) f fd.code A outer s H E).nox (zd st) t/\t { nx:=λ_=>Q (.val .none),rt:=Q } (zbl N ws)):FnOk P w K mg base CX0 (k+1) f fd ps (qm q T (yc K sp)):=by
 obtain⟨oc,od,kV,doc,pm,an,cdv,ct,osl,rfl,lk,hcd⟩:=F.ex;refine zqx lk hcd S (λvs H Q E h=>?_) λA outer s H vs Q E hr h=>?_
 ·obtain⟨_,ws,QD,r,z,_⟩:=h;rw[<-r.length];exact len ws QD z
 ·obtain⟨hT,ws,QD,r,z,kk⟩:=h;obtain⟨t,ht,hq⟩:=hbody A outer s H ws QD E hr hT z;exact⟨_,ht.ps.nox,H,_,_,DOk.begin r N,hq,λσ' H' σD' ok' p' q'=>kk .non H' (.val .none) ok'.same .non q',λv H' r' sm rp qr=>kk v H' r' sm rp qr,λ_ _ _ _ _ z=>z.elim,λ_ _ _ _ _ z=>z.elim⟩
end
def wy(T:Addr)(K:PySem.W.Frag):PySem.W.Frag:=K.filter λp=>p.1 != T
theorem kh{T a:Addr}(h:a≠T):∀K:PySem.W.Frag,(wy T K).lookup a=K.lookup a
 |[]=>rfl
 |(b,o)::K=>by
  have ih:=kh h K;unfold wy at ih ⊢
  by_cases z:b=T
  ·subst z;rw[List.filter_cons_of_neg (by simp),ih,List.lookup_cons,show(a == b)=false by simpa using h]
  ·rw[List.filter_cons_of_pos (by simpa using z),List.lookup_cons,List.lookup_cons,ih]
theorem zbu{T:Addr}:∀K:PySem.W.Frag,(wy T K).lookup T=none
 |[]=>rfl
 |(b,o)::K=>by
  have ih:=zbu (T:=T) K;unfold wy at ih ⊢
  by_cases z:b=T
  ·rw[List.filter_cons_of_neg (by simp[z]),ih]
  ·rw[List.filter_cons_of_pos (by simpa using z),List.lookup_cons,show(T == b)=false by simpa using Ne.symm z,ih]
section
variable {T a:Addr}{K:PySem.W.Frag}{h:Heap}
abbrev zb8:Obj:={ cls:=.none,data:=.fields #[] }
theorem zkb(X:K.In h):(wy T K).In h:=λb o e=>by
 by_cases z:b=T
 ·subst z;rw[zbu]at e;cases e
 ·rw[kh z]at e;exact X b o e
theorem yb(X:K.In h)(gT:h.get? T=some zb8){o:Obj}(l:K.lookup a=some o)(n:o≠zb8):(wy T K).lookup a=some o:=by
 rw[kh λz=>n ?_]
 ·exact l
 ·have e:=X _ _ l;rw[z,gT]at e;exact(Option.some.inj e).symm
theorem zr{ns:Addr}(hg:ns≠T){x:Str}:PySem.W.nsIn (wy T K) ns x=PySem.W.nsIn K ns x:=by
 unfold PySem.W.nsIn;rw[kh hg]
theorem zw(X:K.In h)(gT:h.get? T=some zb8){cd:Value}{q:Str}(e:PySem.W.codeIn K cd q=true):PySem.W.codeIn (wy T K) cd q=true:=by
 obtain⟨c,o,vs,t,rfl,g,d,r⟩:=PySem.W.codeRec_of X e;have z:c≠T:=λz=>by
  subst z;rw[gT]at g
  cases g
  cases d
  cases r
 unfold PySem.W.codeIn at e ⊢;dsimp only at e ⊢;rw[kh z];exact e
theorem zx(X:K.In h)(gT:h.get? T=some zb8){oc:Value}{od:Option Addr}{fd:FuncData}{sl:Array (Option Value)}(l:K.lookup a=some ⟨oc,od,.func fd,sl⟩):PySem.W.keepIn (wy T K) (.ref a)=true:=by
 unfold PySem.W.keepIn;dsimp only;rw[yb X gT l (λz=>by cases z)]
theorem zog{mg:Str->Option Value}(G:h.Ns mainGlobals mg)(gT:h.get? T=some zb8):mainGlobals≠T:=λz=>by
 obtain⟨o',es,ep,e,d,_⟩:=G;rw[z,gT]at e
 cases e
 cases d
def HdO(oc:Obj)(T:Addr):Prop:=∃vs file tf flags tg inF text tt,oc.cls=.type "code" /\ oc.data=.fields vs/\vs[11]?=some (.ref T)/\vs.getD 11 .none=.ref T/\vs.getD 18 .none=.str file tf /\
  vs.getD 7 .none=.int flags tg/\vs.getD 9 .none=.bool inF/\vs.getD 10 .none=.int text tt
theorem HdO.hd{oc:Obj}{c:Addr}(x:HdO oc T)(e:h.get? c=some oc)(n:c≠T):PySem.W.CodeHd h c T :=
 by obtain⟨vs,file,tf,flags,tg,inF,text,tt,r1,r2,r3,r4,r5,r6,r7,r8⟩:=x;exact⟨oc,vs,file,tf,flags,tg,inF,text,tt,e,r1,r2,r3,r4,r5,r6,r7,r8,n⟩
end
theorem zlm{P:Program}{w:World}{K:PySem.W.Frag}{mg mb:Str->Option Value}{k:Nat}{fa a T c:Addr}{oc:Obj}{fd:FuncData}{x q:Str}{sp:Sp}{s₁:Shared}{vs:List Value}{ns:List Int}
  (KX:K.In s₁.heap) (hTK:K.lookup T=none) (gT:s₁.heap.get? T=some zb8) (gc:s₁.heap.get? c=some oc) (hO:HdO oc T) (hcT:c≠T) (hB:jq mg s₁.heap) (hns:s₁.heap.Ns mainGlobals mg) (hb:s₁.heap.Ns builtinsNs mb) (hbb:∀x:Str,x ≠ "__name__" -> mb x=bootBuiltins x) (hlim:s₁.heap.NoLimit) (hg:s₁.gens = #[])
  (ha:s₁.heap.get? a=some { cls:=.type "list",data:=.seq vs.toArray }) (hi:IntsAre vs ns) (hl:ns.length<=sizeLine) (hr:Room k callerA)
  (F:∀base:Heap,K.In base->base.Ns mainGlobals mg->jq mg base->PySem.W.CodeHd base c T->FnOk P w K mg base CX0 k fa fd [x] (qm q T sp)) (hbind:∀(s:Shared) (u:Value),BindsTo s fd ⟨[u],[]⟩ [(x,u)])
  (hsp:∀H:Hp,SqL K H a (ns.map V.int)->sp [.ref a] H (λv _=>v=.bl true) λ_ _ _=>False) :
  codeAny (model P w) callerA (.call (.ref fa) ⟨[.ref a],[]⟩) (λr s'=>r=.ok (.ret (.bool true))/\OldK s₁.heap s'.heap/\s'.os=s₁.os/\AllBare s'.gens) s₁:=by
 have rv:=zej hi;have lenV:=hi.length;have core:∀H:Hp,H T=some (.tbl #[.str q 0])->SqL K H a (ns.map V.int)->HOk P w H s₁.heap->(∀b,H b=none\/b=T\/(b=a/\K.lookup a=none/\∃o xs,H a=some (.frz o (.lst xs)))) ->
   codeAny (model P w) callerA (.call (.ref fa) ⟨[.ref a],[]⟩) (λr s'=>r=.ok (.ret (.bool true))/\OldK s₁.heap s'.heap/\s'.os=s₁.os/\AllBare s'.gens) s₁:=by
  intro H hT hS hok hA;have up:∀{b:Addr}{o:Obj},s₁.heap.get? b=some o->H b=none->(zcn s₁.heap H).get? b=some o:=λe n=>zma e n;have free:∀{b:Addr}{o:Obj},s₁.heap.get? b=some o->b≠T->(∀its n,o.data ≠ .seq its n)->H b=none:=λ{b o} e n d=>by
   rcases hA b with z|z |⟨z,_⟩
   ·exact z
   ·exact absurd z n
   ·subst z;rw[ha]at e;cases e;exact absurd rfl (d _ _)
  have nT:∀{b:Addr}{o:Obj},s₁.heap.get? b=some o->o.data ≠ .fields #[]->b≠T:=λ{b o} e d z=>by subst z;rw[gT]at e;cases e;exact d rfl
  have nsK:∀{b:Addr}{m:Str->Option Value},s₁.heap.Ns b m->(zcn s₁.heap H).Ns b m:=λ{b m} ⟨o,es,ep,e,d,r⟩=>⟨o,es,ep,up e (free e (nT e (by rw[d];intro z;cases z)) (by rw[d];intro _ _ z;cases z)),d,r⟩
  have hKb:K.In (zcn s₁.heap H):=λb o e=>up (KX b o e) (by
   rcases hA b with z|z |⟨z,z2,_⟩
   ·exact z
   ·rw[z,hTK]at e;cases e
   ·rw[z,z2]at e;cases e)
  have hBb:jq mg (zcn s₁.heap H):=let ⟨bm,o,h1,h2,h3,h4,h5,h6⟩:=hB;⟨bm,o,h1,h2,up h3 (free h3 (nT h3 (by rw[h6];intro z;cases z)) (by rw[h6];intro _ _ z;cases z)),h4,h5,h6⟩;have hCb:PySem.W.CodeHd (zcn s₁.heap H) c T:=hO.hd (up gc (free gc hcT (by obtain⟨vs,_,_,_,_,_,_,_,_,r2,_⟩:=hO;rw[r2];intro _ _ z;cases z))) hcT;have hM:Mod K mg (zcn s₁.heap H):=⟨hKb,nsK hns,⟨mb,nsK hb,hbb⟩,let ⟨mc,h1,h2⟩:=hlim;⟨mc,nsK h1,h2⟩⟩
  have e0:Env0 P w K mg (zcn s₁.heap H) callerA [] s₁ H:=⟨rfl,hM,λb o e=>zow e,Nat.le_of_eq (zkq _ _),trivial,λb hb=>absurd (show b∈([]:List Addr) from hb) (by simp),hok,.of_eq hg⟩
  refine codeAny_mono ((F _ hKb (nsK hns) hBb hCb).run callerA [] s₁ H ⟨[.ref a],[]⟩ [.ref a] [.ref a] _ _ hr e0 (hbind s₁ (.ref a)) (.cons rfl .nil) ⟨⟨0,#[],hT⟩,hsp H hS⟩) λr s' h=>?_
  cases r with
  |error e=>exact False.elim h
  |ok fl=>
   cases fl with
   |next=>exact False.elim h
   |brk=>exact False.elim h
   |cont=>exact False.elim h
   |ret u=>
    obtain⟨v,H',os,bare,un,hok',r',z⟩:=h;have z':v=.bl true:=z;subst z';obtain rfl:u=Value.bool true:=r';have tab:∃ps:Array Value,s'.heap.get? T=some { cls:=.none,data:=.fields ps }:=by
     obtain⟨m,e⟩:=un.tbls T _ hT;obtain⟨ps,_,_,_,g,_⟩:=(show zgg H' s'.heap T _ from hok' T _ e)
     exact⟨ps,g⟩
    have all:∀b o,s₁.heap.get? b=some o->s'.heap.get? b=some o\/b=T:=λb o e=>by
     rcases hA b with z|z |⟨z,_,ob,xs,z2⟩
     ·exact .inl (un.keep b o e z (by intro y;exact absurd (show b∈([]:List Addr) from y) (by simp)) (by simp))
     ·exact .inr z
     ·subst z;obtain⟨e1,_⟩:=(show ObjOk P w H s₁.heap b _ from hok b _ z2)
      obtain⟨e2,_⟩:=(show ObjOk P w H' s'.heap b _ from hok' b _ (un.frzs b ob _ z2))
      rw[e]at e1;cases e1;exact .inl e2
    obtain⟨ps,gp⟩:=tab;refine⟨rfl,⟨λb o e=>?_,λb o e=>?_⟩,os,bare⟩
    ·rcases all b o e with z|z
     ·exact .inl z
     ·subst z;rw[gT]at e
      cases e;exact .inr (.inl ⟨((hO.hd gc hcT).tab gT).isCodeTable,rfl,#[],ps,rfl,by rw[gp];simp⟩)
    ·rcases all b o e with z|z
     ·exact⟨o,z⟩
     ·subst z;exact⟨_,gp⟩
 have nTa:a≠T:=λz=>by rw[z,gT]at ha;cases ha
 have tk:∀H:Hp,zgg H s₁.heap T #[.str q 0]:=λH=>⟨#[],q,0,rfl,gT,trivial,λpos cv y=>by cases y⟩
 cases hk:K.lookup a with
 |some o=>
  have e:=KX a o hk;rw[ha]at e
  cases e;refine core (λb=>if b=T then some (.tbl #[.str q 0]) else none) (if_pos rfl) (.inr ⟨_,vs.toArray,_,hk,rfl,rfl,rfl,by rw[List.size_toArray,lenV];exact hl,by simpa using rv⟩) (λb u z=>?_) λb=>?_
  ·by_cases hb:b=T
   ·have z':=(if_pos hb).symm.trans z
    cases z';subst hb;exact tk _
   ·have z':=(if_neg hb).symm.trans z
    cases z'
  ·by_cases hb:b=T
   ·exact .inr (.inl hb)
   ·exact .inl (if_neg hb)
 |none=>
  have eT:(λb=>if b=T then some (HO.tbl #[.str q 0]) else if b=a then some (.frz { cls:=.type "list",data:=.seq vs.toArray } (.lst (ns.map V.int))) else none) T=some (.tbl #[.str q 0]):=if_pos rfl;have eA:(λb=>if b=T then some (HO.tbl #[.str q 0]) else if b=a then some (.frz { cls:=.type "list",data:=.seq vs.toArray } (.lst (ns.map V.int))) else none) a=some (.frz { cls:=.type "list",data:=.seq vs.toArray } (.lst (ns.map V.int))):=(if_neg nTa).trans (if_pos rfl);refine core (λb=>if b=T then some (HO.tbl #[.str q 0]) else if b=a then some (.frz { cls:=.type "list",data:=.seq vs.toArray } (.lst (ns.map V.int))) else none) eT (.inl (.inr ⟨{ cls:=.type "list",data:=.seq vs.toArray },eA⟩)) (λb u z=>?_) λb=>?_
  ·by_cases hb:b=T
   ·subst hb;rw[eT]at z
    cases z;exact tk _
   ·by_cases hb2:b=a
    ·subst hb2;rw[eA]at z
     cases z;exact⟨ha,by rw[List.length_map];exact hl,vs,_,rv,ha⟩
    ·have z':=((if_neg hb).trans (if_neg hb2)).symm.trans z
     cases z'
  ·by_cases hb:b=T
   ·exact .inr (.inl hb)
   ·by_cases hb2:b=a
    ·exact .inr (.inr ⟨hb2,hk,_,_,eA⟩)
    ·exact .inl ((if_neg hb).trans (if_neg hb2))
theorem walk_ofT{l:PySem.W.OpenLaw}{n k:Nat}{ql:Program}{loose:List Str}{XP:(Str->Option Value)->Heap->Prop}{YP:World->Heap->Prop}{d:DefRec}{K:Params->PySem.W.Frag}{sp:World->Sp}{x q:Str}{T:Addr}
  (hn:l.most=some n) (hn2:n<=sizeLine) (hdf:d.params.defaults = []) (hr:Room k callerA)
  (hY:∀(w:World) (h:Heap),YP w h->(K w.params).In h/\h.get? T=some zb8)
  (F:∀(w:World) (mg:Str->Option Value) (fa:Addr) (h:Heap),(K w.params).In h->h.get? T=some zb8->h.Ns mainGlobals mg->mg d.name=some (.ref fa) ->
   ∃fd:FuncData,(∀(s:Shared) (u:Value),BindsTo s fd ⟨[u],[]⟩ [(x,u)])/\∃(c:Addr) (oc:Obj),(K w.params).lookup c=some oc/\HdO oc T/\c≠T /\
    ∀base:Heap,(wy T (K w.params)).In base->base.Ns mainGlobals mg->jq mg base->PySem.W.CodeHd base c T->FnOk l.prog w (wy T (K w.params)) mg base CX0 k fa fd [x] (qm q T (sp w)))
  (hsp:∀(w:World) (H:Hp) (a:Addr) (ns:List Int),ns.length<=n->SqL (wy T (K w.params)) H a (ns.map V.int)->sp w [.ref a] H (λv _=>v=.bl true) λ_ _ _=>False) :
  PySem.W.WalkO ql loose XP YP l.row.toRowW d [] (λf vs=>PySem.call f vs):=by
 refine Att.attach_call hn hdf λw s₀ s₁ mg mb fa o pm cd doc a vs ns G Y ho hd hcd hmg hobj hints hlen hg=>?_;obtain⟨KX,gT⟩:=hY w _ Y;obtain⟨fd,hb,c,oc,lc,hO,ne,hF⟩:=F w mg fa _ KX gT G.T.g hmg;obtain⟨bm,ob,b1,b2,b3,b4,b5,b6⟩:=G.T.bmain;exact zlm (zkb KX) (zbu _) gT (KX _ _ lc) hO ne ⟨bm,ob,b1,b2,b3,b4,b5,b6⟩ G.T.g G.T.b G.T.builtins G.T.nolimit hg hobj hints (Nat.le_trans hlen hn2) hr hF hb (λH hS=>hsp w H a ns hlen hS)
end L2
namespace PySem
open Sem (wp)
section
variable {prog:Program}{w:World}{A:Around}{E:Value->Shared->Prop}{h:Heap}{g:Array GenState}{d:Drawn}{t:Nat}{os:OsState}
variable {nm q:Str}{C N:Addr}{bs bm bmB bmN:List Value}{hdct:Bool}{sn:List Str}{sub:List Value}{ab:Bool}{col:Option Bool}{dd:Option Addr}{k0 k1 k2 k3 k5:Option Value}{B Bn newId nid initId inN:String}
end
end PySem
namespace PySem
open Sem (wp)
open Builtin Builtin.ObjectAttr
section
variable {prog:Program}{w:World}{A:Around}{E:Value->Shared->Prop}{h:Heap}{g:Array GenState}{d:Drawn}{t:Nat}{os:OsState}
variable {nm q:Str}{C N x:Addr}{bs bm bmB:List Value}{sn:List Str}{sub:List Value}{ab:Bool}{col:Option Bool}{dd:Option Addr}{k0 k1 k2 k3 k5:Option Value}{B newId sa owner:String}
 {mA:Str->Option Value}{name:Str}{v:Value}
end
end PySem
namespace PySem
open Sem (wp)
section
variable {M:Model}{A:Around}{E:Value->Shared->Prop}{s:Shared}{env:Env}
variable {nm q:Str}{C N:Addr}{bs bm bmB bmN:List Value}{hdct:Bool}{sn:List Str}{sub:List Value}{ab:Bool}{col:Option Bool}{dd:Option Addr}{k0 k1 k2 k3 k5:Option Value}{B Bn newId nid initId inN:String}
end
section
variable {prog:Program}{w:World}{A:Around}{E:Value->Shared->Prop}{s:Shared}{env:Env}
variable {nm q:Str}{C N:Addr}{bs bm bmB bmN:List Value}{hdct:Bool}{sn:List Str}{sub:List Value}{ab:Bool}{col:Option Bool}{dd:Option Addr}{k0 k1 k2 k3 k5:Option Value}{B Bn newId nid initId inN:String}
end
end PySem
namespace L2
open PySem PySem.Spec PyProof.Rows
def ztl(K:PySem.W.Frag)(C:Addr)(bmB:List Value)(newId:String)(fI:Addr):Bool:=match K.lookup C with
 |some ⟨.type "type",_,.cls cd,sl⟩=>(match cd.mro,sl.toList with
  |.ref C'::bm,[_,_,_,_,some (.builtin n),_]=>C' == C && n == newId && !cd.hasDel && cd.hasDict && PySem.W.tailIn K bmB bm && PySem.W.nsOkIn K cd.ns && PySem.W.nsIn K cd.ns "__init__" == some (some (.ref fI))
  |_,_=>false)
 |_=>false
section
variable {X:Cx}{pins:List (Addr×Obj)}{σ:St}{H:Hp}{s:Shared}
theorem Inv.track{b:Addr}{o:HO}(I:Inv X pins σ H s)(hn:H b=none)(h0:X.s₀.heap.get? b=none)(hl:b≠X.env.locals)(hc:∀x c,X.env.cells.lookup x=some c->c≠b)(hp:∀p∈X.pn++pins,p.1≠b)(ok:ObjOk X.prog X.w (upd H b o) s.heap b o):Inv X pins σ (upd H b o) s:=by
 have up:∀c u,H c=some u->upd H b o c=some u:=λc u e=>by rw[zn (yj e hn)];exact e
 refine⟨I.ok,I.os,I.bare,⟨I.base.keep,I.base.slot,λc u e n hx=>?_,I.base.there,λc xs e=>up _ _ (I.base.tups c xs e),λc u v e=>up _ _ (I.base.frzs c u v e),λc ps e=>?_⟩,I.loc,I.cell,?_,λx c e=>?_,λp q=>?_,λc u e=>?_,I.len⟩
 ·rw[zn (λz=>by rw[z,h0]at e;cases e)];exact I.base.free c u e n hx
 ·obtain⟨m,z⟩:=I.base.tbls c ps e;exact⟨m,up _ _ z⟩
 ·rw[zn (Ne.symm hl)];exact I.free
 ·rw[zn (hc x c e)];exact I.freeC x c e
 ·obtain⟨z1,z2,z3⟩:=I.pin p q;exact⟨z1,by rw[zn (hp p q)];exact z2,z3⟩
 ·by_cases z:c=b
  ·subst z;rw[zp]at e
   cases e;exact ok
  ·rw[zn z]at e;exact(I.hok c u e).stay (λ_ _ _ q=>q) (λc q=>up _ _ q) (λc xs q=>up _ _ q) λc _ _ q=>up _ _ q
end
def zoh(C t:Addr)(od:Option Addr):Obj:={ cls:=.ref C,dict:=od,data:=.fields #[.ref t,.none,.none,.none,.bool false,.none] }
def ztm(C t:Addr)(od:Option Addr)(a:Addr):HO:=.ext λh=>h.get? a=some (zoh C t od)
structure XI(X:Cx)(σ:St)(H:Hp)(s:Shared)(e C t:Addr)(od:Option Addr)(mA:Str->Option Value)(c:Nat):Prop where
 I:Inv X [] σ H s
 tr:H e=some (ztm C t od e)
 no:od=none->∀n,mA n=none
 ns:∀d,od=some d->d≠e/\s.heap.Ns1 d mA/\FpOk X [] H d
 few:∃ks,Within mA ks/\ks.length<=c
structure zw2(K:PySem.W.Frag)(C fI:Addr)(fs:List Str):Prop where
 cls:ztl K C [.type "ValueError",.type "Exception",.type "BaseException",.type "object"] "ValueError.__new__" fI=true
 sa:PySem.W.findIn K (.ref C) "__setattr__" = some (some (.builtin "object.__setattr__"))
 at_:∀f∈fs,PySem.W.findIn K (.ref C) f=some none
section
variable {X:Cx}{σ:St}{H:Hp}{s:Shared}{e C t fI:Addr}{od:Option Addr}{mA:Str->Option Value}{fs:List Str}{c:Nat}
theorem XI.ob(x:XI X σ H s e C t od mA c):s.heap.get? e=some (zoh C t od):=(x.I.hok e _ x.tr).1
end
def zwn(fs:List Str)(ns:List Int):List (Str×V):=(fs.zip ns).map λp=>(p.1,V.int p.2)
def zp6(P:Program)(w:World)(outer:List Env)(H:Hp)(s s':Shared)(e C t:Addr)(fv:List (Str×V)):Prop :=
 ∃d H',s'.os=s.os/\AllBare s'.gens/\Un (frs outer) [] H H' s.heap s'.heap/\HOk P w H' s'.heap/\H' e=some (ztm C t (some d) e)/\H' d=some (.xd fv)/\But e H H'/\d≠e/\H d=none
structure zwo(P:Program)(w:World)(K:PySem.W.Frag)(mg:Str->Option Value)(base:Heap)(k:Nat)(C fI:Addr)(fs:List Str):Prop where
 run:∀(A:Around) (outer:List Env) (s:Shared) (H:Hp) (e t:Addr) (ns:List Int) (us:List Value),Room k A->Env0 P w K mg base A outer s H->H e=some (ztm C t none e)->Vals (ns.map V.int) us->ns.length=fs.length ->
  codeAny (model P w) A (.call (.ref fI) ⟨.ref e::us,[]⟩) (λr s'=>r=.ok (.ret .none)/\zp6 P w outer H s s' e C t (zwn fs ns)) s
section
variable {P:Program}{w:World}{K:PySem.W.Frag}{mg:Str->Option Value}{base:Heap}{k:Nat}{C fI:Addr}{fd:FuncData}{qual:Str}{st:Stmt}
end
section
variable {P:Program}{w:World}{K:PySem.W.Frag}{mg:Str->Option Value}{base:Heap}{N:List Str}{qual:Str}{scope:Scope}{f:Addr}{cd:Value}{A:Around}{outer:List Env}{s:Shared}{H:Hp}{E:XK}
end
end L2
namespace L2
open PySem PySem.Spec PyProof.Rows PySem.W
section
variable {prog:Program}{w:World}{A:Around}{E:Value->Shared->Prop}{s:Shared}{K:Frag}{x C:Addr}{ox:Obj}{od:Option Obj}{name:Str}{v:Value}
end
section
variable {X:Cx}{pos p:Pos}
end
end L2
namespace L2
open PySem PySem.Spec PyProof.Rows
section
variable {X:Cx}{e:Expr}{es rest:List Expr}{k k':Nat}{x:Str}{ps:List Str}{sp:DSp}{t:DTP}{p cpos:Pos}
end
section
variable {X:Cx}
variable {o e:Expr}{to te:DTE}{apos cpos:Pos}
end
section
variable {X:Cx}{pos p:Pos}
end
section
variable {X:Cx}{e:Expr}{pos p:Pos}
end
section
variable {X:Cx}{a b c d:Expr}{ta tb tc td:DTE}{pos:Pos}
end
section
variable {X:Cx}
def zwp(X:Cx)(t:DTS):TS:=λE σ H=>∃σD Dn,DOk X.K X.H₀ H σD σ/\t Dn σD/\(∀σ' H' σD',DOk X.K X.H₀ H' σD' σ'->Pers H H'->Dn.nx σD'->E.nx σ' H')/\(∀v H' r,Same X.H₀ H'->zfp X.K X.H₀ H' r v->Dn.rt r->E.rt v H') /\
 (∀σ' H' σD',DOk X.K X.H₀ H' σD' σ'->Pers H H'->Dn.bk σD'->E.bk σ' H')/\∀σ' H' σD',DOk X.K X.H₀ H' σD' σ'->Pers H H'->Dn.ct σD'->E.ct σ' H'
theorem DSXs.ps{sts:List Stmt}{t:DTS}(h:DSXs X sts t):PSs X sts (zwp X t):=λpins s σ H E I ⟨σD,Dn,ok,q,k1,k2,k3,k4⟩=>thn (h.run pins s σ H σD Dn I ok q) λf s' z=>by
 cases f with
 |next=>obtain⟨a,b,c,e1,e2,e3,e4⟩:=z;exact⟨a,b,e1,k1 a b c e2 e3 e4⟩
 |brk=>obtain⟨a,b,c,e1,e2,e3,e4⟩:=z;exact⟨a,b,e1,k3 a b c e2 e3 e4⟩
 |cont=>obtain⟨a,b,c,e1,e2,e3,e4⟩:=z;exact⟨a,b,e1,k4 a b c e2 e3 e4⟩
 |ret u=>obtain⟨v,a,b,r,e1,e2,e3,e4,e5⟩:=z;exact⟨v,a,b,e1,e2,k2 v b r e3 e4 e5⟩
theorem DSX.of{st:Stmt}{t:DTS}{t':TS}(h:PS X st t')(k:∀σ H σD Dn,DOk X.K X.H₀ H σD σ->t Dn σD->t' (zng X.K X.H₀ H Dn) σ H):DSX X st t :=
 ⟨λpins s σ H σD Dn I ok q=>thn (h pins s σ H _ I (k σ H σD Dn ok q)) λ_ _ z=>z.dsp⟩
end
section
variable {X:Cx}{pins:List (Addr×Obj)}{σ:St}{H:Hp}{s:Shared}
end
end L2
namespace PySem
section
variable {prog:Program}{w:World}{A:Around}{E:Value->Shared->Prop}{s:Shared}
end
end PySem
namespace L2
open PySem PySem.Spec PyProof.Rows SQ
section
variable {X:Cx}{a:Expr}{p pos p2 pos2:Pos}
end
end L2
namespace L2
open PySem PySem.Spec PyProof.Rows
section
variable {X:Cx}{pos p:Pos}
end
section
variable {prog:Program}{w:World}{A:Around}{R:Result->Shared->Prop}{s:Shared}{elt t1 i1 t2 i2:Expr}{f1 f2:List Expr}{scope:Scope}{pos:Pos}{it acc:Value}{env:Env}
abbrev LC2(elt t1 i1 t2 i2:Expr)(f1 f2:List Expr)(scope:Scope)(pos:Pos):Expr:=.ListComp elt [⟨t1,i1,f1,0⟩,⟨t2,i2,f2,0⟩] scope pos
theorem zvm(elt t1 i1 t2 i2:Expr)(f1 f2:List Expr)(scope:Scope)(pos:Pos)(it acc:Value)(env:Env):compTurn (LC2 elt t1 i1 t2 i2 f1 f2 scope pos) 0 it acc env=(do
  standAt i1.pos
  match <-pyNext it with
  |none=>pure (.done .next)
  |some v=>
   letOwnedTupleGo t1 it v
   assign t1 env v
   let mut ok:=true
   for c in f1 do
    if ok then ok <-isTrue c env (eval c env)
   if ok then
    let x <-eval i2 env
    standAt i2.pos
    let x <-foldedSetIterable i2 env x
    let _ <-runOwn (.compStart (LC2 elt t1 i1 t2 i2 f1 f2 scope pos) 1 (<-holding [x] (pyIter x)) acc env) env
   again (.compLoop (LC2 elt t1 i1 t2 i2 f1 f2 scope pos) 0 it acc env)):=by rfl
theorem zvn(elt t1 i1 t2 i2:Expr)(f1 f2:List Expr)(scope:Scope)(pos:Pos)(it acc:Value)(env:Env):compTurn (LC2 elt t1 i1 t2 i2 f1 f2 scope pos) 1 it acc env=(do
  standAt i2.pos
  match <-pyNext it with
  |none=>pure (.done .next)
  |some v=>
   letOwnedTupleGo t2 it v
   assign t2 env v
   let mut ok:=true
   for c in f2 do
    if ok then ok <-isTrue c env (eval c env)
   if ok then
    (do let _ <-call (.builtin "list.append") [acc,<-eval elt env])
   again (.compLoop (LC2 elt t1 i1 t2 i2 f1 f2 scope pos) 1 it acc env)):=by rfl
theorem zln(I:Nat->Shared->Prop)
  (turn:∀n s,I n s->wpAny (model prog w) A (pyNext it) (λr s1=>match r with
   |none=>R (.ok .next) s1
   |some v=>wpAny (model prog w) A (letOwnedTupleGo t2 it v) (λ_ s1'=>wpAny (model prog w) A (assign t2 env v) (λ_ s2=>
     wpAny (model prog w) A (forIn f2 true λc r=>if r=true then do let ok <-isTrue c env (eval c env);pure (ForInStep.yield ok) else pure (ForInStep.yield r)) (λok s3=>
      if ok=true then wpAny (model prog w) A (eval elt env) (λx s4=>
       wpAny (model prog w) A (call (.builtin "list.append") [acc,x]) (λ_ s5=>∃m,m<n/\I m s5) (λ_ _=>False) s4) (λ_ _=>False) s3
      else ∃m,m<n/\I m s3) (λ_ _=>False) s2) (λ_ _=>False) s1') (λ_ _=>False) s1) (λ_ _=>False) s)
  (n:Nat) (h:I n s):codeAny (model prog w) A (.compLoop (LC2 elt t1 i1 t2 i2 f1 f2 scope pos) 1 it acc env) R s:=by
 refine codeAny_loop rfl I (λn s hI=>?_) n h;show wpAny _ A ((compTurn (LC2 elt t1 i1 t2 i2 f1 f2 scope pos) 1 it acc env).onRaise (λx=>do noteFrame x env;theTreesLotGoes x)) _ _ s;refine wpAny_noted ?_;rw[zvn];refine wpAny_bind (wpAny_standAt (wpAny_bind (wpAny_mono (turn n s hI) (λr s1 h1=>?_) λ_ _ h'=>h'.elim)))
 cases r with
 |none=>exact wpAny_pure h1
 |some v=>
  refine wpAny_bind (wpAny_mono h1 (λ_ s1' h1'=>?_) λ_ _ h'=>h'.elim);refine wpAny_bind (wpAny_mono h1' (λ_ s2 h2=>wpAny_bind (wpAny_mono h2 (λok s3 h3=>?_) λ_ _ h'=>h'.elim)) λ_ _ h'=>h'.elim)
  cases ok with
  |false=>exact wpAny_pure ⟨rfl,h3⟩
  |true=>exact wpAny_bind (wpAny_bind (wpAny_mono h3 (λx s4 h4=>wpAny_bind (wpAny_mono h4 (λ_ s5 h5=>wpAny_pure (wpAny_pure ⟨rfl,h5⟩)) λ_ _ h'=>h'.elim)) λ_ _ h'=>h'.elim))
theorem ztn(h0:codeAny (model prog w) A (.compLoop (LC2 elt t1 i1 t2 i2 f1 f2 scope pos) 1 it acc env) R s)
  (h:wpAny (model prog w) A (pyIter it) (λit' s'=>codeAny (model prog w) A (.compLoop (LC2 elt t1 i1 t2 i2 f1 f2 scope pos) 1 it' acc env) R s') (λ_ _=>False) s) :
  codeAny (model prog w) A (.compStart (LC2 elt t1 i1 t2 i2 f1 f2 scope pos) 1 it acc env) R s:=by
 refine codeAny_of_tree ?_;show wpAny _ _ ((compStart (LC2 elt t1 i1 t2 i2 f1 f2 scope pos) 1 it acc env).onRaise (λx=>do noteFrame x env;standAt theWindowsPlace)) _ _ s;refine wpAny_notedAt ?_;unfold compStart;show wpAny _ _ (ask >>= _) _ _ s;refine wpAny_bind (wpAny_askSetting (wpAny_ite ?_))
 split
 ·first
   |exact wpAny_bind (wpAny_pure (wpAny_pure (And.intro rfl h0)))
   |exact wpAny_pure (And.intro rfl h0)
 ·refine wpAny_bind (wpAny_rule ?_);show wpAny _ _ (standAt i2.pos >>= _) _ _ s;exact wpAny_bind (wpAny_standAt (wpAny_bind (wpAny_mono h (λit' s' h'=>wpAny_pure (And.intro rfl h')) λ_ _ x=>x.elim)))
theorem zlo(I:Nat->Shared->Prop)(hs:∀x,foldedSetIterable i2 env x=pure x)
  (turn:∀n s,I n s->wpAny (model prog w) A (pyNext it) (λr s1=>match r with
   |none=>R (.ok .next) s1
   |some v=>wpAny (model prog w) A (letOwnedTupleGo t1 it v) (λ_ s1'=>wpAny (model prog w) A (assign t1 env v) (λ_ s2=>
     wpAny (model prog w) A (forIn f1 true λc r=>if r=true then do let ok <-isTrue c env (eval c env);pure (ForInStep.yield ok) else pure (ForInStep.yield r)) (λok s3=>
      if ok=true then wpAny (model prog w) A (eval i2 env) (λx s4=>wpAny (model prog w) A (pyIter x) (λit2 s5=>
       codeAny (model prog w) A (.compStart (LC2 elt t1 i1 t2 i2 f1 f2 scope pos) 1 it2 acc env) (λr s6=>match r with|.ok _=>∃m,m<n/\I m s6|.error _=>False) s5) (λ_ _=>False) s4) (λ_ _=>False) s3
      else ∃m,m<n/\I m s3) (λ_ _=>False) s2) (λ_ _=>False) s1') (λ_ _=>False) s1) (λ_ _=>False) s)
  (n:Nat) (h:I n s):codeAny (model prog w) A (.compLoop (LC2 elt t1 i1 t2 i2 f1 f2 scope pos) 0 it acc env) R s:=by
 refine codeAny_loop rfl I (λn s hI=>?_) n h;show wpAny _ A ((compTurn (LC2 elt t1 i1 t2 i2 f1 f2 scope pos) 0 it acc env).onRaise (λx=>do noteFrame x env;theTreesLotGoes x)) _ _ s;refine wpAny_noted ?_;rw[zvm];refine wpAny_bind (wpAny_standAt (wpAny_bind (wpAny_mono (turn n s hI) (λr s1 h1=>?_) λ_ _ h'=>h'.elim)))
 cases r with
 |none=>exact wpAny_pure h1
 |some v=>
  refine wpAny_bind (wpAny_mono h1 (λ_ s1' h1'=>?_) λ_ _ h'=>h'.elim);refine wpAny_bind (wpAny_mono h1' (λ_ s2 h2=>wpAny_bind (wpAny_mono h2 (λok s3 h3=>?_) λ_ _ h'=>h'.elim)) λ_ _ h'=>h'.elim)
  cases ok with
  |false=>exact wpAny_pure ⟨rfl,h3⟩
  |true=>
   refine wpAny_bind (wpAny_mono h3 (λx s4 h4=>?_) λ_ _ h'=>h'.elim);refine wpAny_bind (wpAny_standAt ?_);rw[hs x];refine wpAny_bind (wpAny_pure (wpAny_bind (wpAny_holding (wpAny_mono h4 (λit2 s5 h5=>?_) λ_ _ h'=>h'.elim))));refine wpAny_bind (wpAny_runOwn ?_);refine codeAny_mono h5 λr s6 h6=>?_
   cases r with
   |ok f=>exact wpAny_pure ⟨rfl,h6⟩
   |error e=>exact h6.elim
end
section
variable {X:Cx}
def zde(J:It)(D:Addr)(g:TG)(tt:TT)(wi2:TI)(g2:TG)(tt2:TT)(te:TE)(σ0:St)(H1:Hp)(Q:VK):Prop :=
 ∃W:Nat->Nat->St->Hp->Prop,(∃m,W 0 m σ0 (upd H1 D (.lst [])))/\∀i m σ H,W i m σ H ->
  (J.stop i H/\Q (.ref D) H)\/(J.go i H/\∀x H',J.yld i H x H'->g x σ H' λσ2 H2=>tt σ2 H2 λb H3=>
   if b=true then wi2 σ2 H3 λJ2 H4=>∃W2:Nat->Nat->St->Hp->Prop,(∃m2,W2 0 m2 σ2 H4)/\∀i2 n2 σ' H',W2 i2 n2 σ' H' ->
    (J2.stop i2 H'/\∃m',m' < m/\W (i+1) m' σ' H')\/(J2.go i2 H'/\∀x H5,J2.yld i2 H' x H5->g2 x σ' H5 λσ6 H6=>tt2 σ6 H6 λb H7=>
     if b=true then te σ6 H7 λy H8=>∃ys,H8 D=some (.lst ys)/\ys.length<sizeLine/\∃m',m' < n2/\W2 (i2+1) m' σ6 (upd H8 D (.lst (ys ++ [y])))
     else ∃m',m' < n2/\W2 (i2+1) m' σ6 H7)
   else ∃m',m' < m/\W (i+1) m' σ2 H3)
def zvo(k:Nat)(js:List Nat)(wi:TI)(g:TG)(tt:TT)(wi2:TI)(g2:TG)(tt2:TT)(te:TE):TE:=λσ H Q=>wi σ H λJ H1=>∀D,H1 D=none->zde J D g tt wi2 g2 tt2 te (xc k js σ) H1 Q
theorem zto{elt t1 i1 t2 i2:Expr}{f1 f2:List Expr}{scope:Scope}{pos:Pos}{cl:List (Str×Addr)}{N':List Str}{C:Addr}{fp:List Addr}{s2:Shared}{H2:Hp}{g2:TG}{tt2:TT}{te:TE}{D:Addr}
  (hg:PG (yk X N' scope cl C fp s2 H2) t2 g2) (ht:PTs (yk X N' scope cl C fp s2 H2) f2 tt2) (he:PE (yk X N' scope cl C fp s2 H2) elt te)
  {pins:List (Addr×Obj)}{σ:St}{H:Hp}{s:Shared}{J:It}{fq:List Addr}{it:Addr}{tn:Nat->Heap->Prop}{W:Nat->Nat->St->Hp->Prop}{Z:St->Hp->Prop}{m0:Nat}
  (I:Inv (yk X N' scope cl C fp s2 H2) pins σ H s) (T:zfa X.prog X.w X.K t2 J fq it tn) (st:tn 0 s.heap) (f:∀b∈fq,FpOk (yk X N' scope cl C fp s2 H2) pins H b) (w0:W 0 m0 σ H)
  (turn:∀i n σ' H',W i n σ' H'->(J.stop i H'/\Z σ' H')\/(J.go i H'/\∀x H5,J.yld i H' x H5->g2 x σ' H5 λσ6 H6=>tt2 σ6 H6 λb H7=>
   if b=true then te σ6 H7 λy H8=>∃ys,H8 D=some (.lst ys)/\ys.length<sizeLine/\∃m',m' < n/\W (i+1) m' σ6 (upd H8 D (.lst (ys ++ [y]))) else ∃m',m' < n/\W (i+1) m' σ6 H7)) :
  codeAny (model X.prog X.w) X.A (.compLoop (LC2 elt t1 i1 t2 i2 f1 f2 scope pos) 1 (.ref it) (.ref D) (compEnvC scope cl C X.env)) (λr s'=>match r with|.ok _=>∃σ' H',Inv (yk X N' scope cl C fp s2 H2) pins σ' H' s'/\Z σ' H'|.error _=>False) s:=by
 have stat:∀{H':Hp},(∀b∈fq,H' b=none)->∀b∈fq,FpOk (yk X N' scope cl C fp s2 H2) pins H' b:=λhn b hb=>⟨hn b hb,(f b hb).2⟩
 refine zln (λn s'=>∃i σ' H',Inv (yk X N' scope cl C fp s2 H2) pins σ' H' s'/\tn i s'.heap/\(∀b∈fq,H' b=none)/\W i n σ' H') ?_ m0 ⟨0,_,_,I,st,λb hb=>(f b hb).1,w0⟩;intro n s3 zz;refine gg λG zk=>?_;obtain⟨i,σ3,H3,I3,st3,fr3,w3⟩:=zz;refine zk ?_;clear zk;rcases turn i n σ3 H3 w3 with⟨stop,qn⟩ |⟨go,step⟩
 ·refine thn (T.done (yk X N' scope cl C fp s2 H2) rfl rfl rfl rfl i pins s3 σ3 H3 (λ_ _=>False) I3 (stat fr3) st3 stop) λr s4 ⟨hr,J4⟩=>?_;subst hr;exact⟨σ3,H3,J4,qn⟩
 ·refine thn (T.item (yk X N' scope cl C fp s2 H2) rfl rfl rfl rfl i pins s3 σ3 H3 (λ_ _=>False) I3 (stat fr3) st3 go) λr s4 ⟨u,hr,h4⟩=>?_;subst hr;refine thn h4 λ_ s5 zr36=>?_;obtain⟨x,H5,I5,r5,y5,st5,fr5⟩:=zr36;have I5':=I5.pinned (stat fr5) (T.obj _ _ st5);refine thn (hg _ s5 σ3 H5 x u _ I5' r5 (step x H5 y5)) λ_ s6 zr38=>?_;obtain⟨σ6,H6,I6,q6⟩:=zr38;refine thn (ht _ s6 σ6 H6 _ I6 q6) λok s7 ⟨H7,I7,q7⟩=>?_
  have again:∀{H8:Hp}{s8:Shared},Inv (yk X N' scope cl C fp s2 H2) (pins++zaj fq s5.heap) σ6 H8 s8->(∃m',m' < n/\W (i+1) m' σ6 H8)->∃m,m<n/\∃i σ' H',Inv (yk X N' scope cl C fp s2 H2) pins σ' H' s8/\tn i s8.heap/\(∀b∈fq,H' b=none)/\W i m σ' H':=λ{H8 s8} I8 n8=>by
   obtain⟨m',hm,w8⟩:=n8;refine⟨m',hm,i+1,σ6,H8,I8.unpinned,T.keep _ _ _ st5 λb hb o e=>(I8.pin (b,o) (List.mem_append_right _ (List.mem_append_right _ (we hb e)))).1,λb hb=>?_,w8⟩;obtain⟨o,e,d⟩:=T.obj _ _ st5 b hb;exact(I8.pin (b,o) (List.mem_append_right _ (List.mem_append_right _ (we hb e)))).2.1
  cases ok with
  |false=>
   rw[if_neg Bool.false_ne_true]at q7;exact again I7 q7
  |true=>
   rw[if_pos rfl]at q7;refine thn (he _ s7 σ6 H7 _ I7 q7) λy s8 zr51=>?_;obtain⟨v8,H8,I8,r8,q8⟩:=zr51;obtain⟨ys,e8,z8,w8⟩:=q8;refine thn (jz (X:=yk X N' scope cl C fp s2 H2) _ s8 σ6 H8 (.ref D) [v8] (.ref D) [y] (λv H=>∃m',m' < n/\W (i+1) m' σ6 H) I8 rfl (.cons r8 .nil) ⟨D,ys,v8,rfl,rfl,e8,z8,w8⟩) λ_ s9 zr53=>?_;obtain⟨v9,H9,I9,_,w9⟩:=zr53;exact again I9 w9
theorem zlp{elt tg iter t2 i2:Expr}{ifs ifs2:List Expr}{wi2:TI}{g2:TG}{tt2:TT}{scope:Scope}{pos:Pos}{cl:List (Str×Addr)}{N' capt:List Str}{k:Nat}{js:List Nat}{g:TG}{tt:TT}{te:TE}{J:It}{fp:List Addr}{tn:Nat->Heap->Prop}{it:Addr}
  {pins:List (Addr×Obj)}{σ:St}{H2:Hp}{s2:Shared}{Q:VK}{E:Value->Shared->Prop} (hc:X.calm=true) (L:zdx X scope cl N' capt k js)
  (hg:∀C fp s2 H2,PG (yk X N' scope cl C fp s2 H2) tg g) (ht:∀C fp s2 H2,PTs (yk X N' scope cl C fp s2 H2) ifs tt) (hi2:∀C fp s2 H2,PI (yk X N' scope cl C fp s2 H2) t2 i2 wi2) (hg2:∀C fp s2 H2,PG (yk X N' scope cl C fp s2 H2) t2 g2) (ht2:∀C fp s2 H2,PTs (yk X N' scope cl C fp s2 H2) ifs2 tt2) (he:∀C fp s2 H2,PE (yk X N' scope cl C fp s2 H2) elt te) (hs2:∀C x,foldedSetIterable i2 (compEnvC scope cl C X.env) x=pure x)
  (I2:Inv X pins σ H2 s2) (T:zfa X.prog X.w X.K tg J fp it tn) (st2:tn 0 s2.heap) (f2:∀b∈fp,FpOk X pins H2 b) (q:∀D,H2 D=none->zde J D g tt wi2 g2 tt2 te (xc k js σ) H2 Q) :
  wpAny (model X.prog X.w) X.A (newList []) (λacc s3=>wpAny (model X.prog X.w) X.A (newFunctionEnv scope X.env.globals cl [] X.env.qual none .none (some X.env)) (λcenv s4=>
   codeAny (model X.prog X.w) X.A (.compStart (LC2 elt tg iter t2 i2 ifs ifs2 scope pos) 0 (.ref it) acc { cenv with scope:=relabel scope X.env }) (LcEnd X pins σ Q acc cenv.locals) s4) E s3) E s2:=by
 refine wpAny_newObj_type (wpAny_newFunctionEnv L.cell (by intro y hy;simp at hy) (λh₁ hns₁ hsb₁=>?_) L.kind);dsimp only at hns₁ hsb₁ ⊢;generalize hH2:s2.heap.push { cls:=.type "list",dict:=none,data:=.seq ([]:List Value).toArray }=G at hns₁ hsb₁ ⊢;have hC:G.objs.size=s2.heap.objs.size+1:=by rw[<-hH2,Heap.size_push]
 have hDC:s2.heap.objs.size≠G.objs.size:=by rw[hC];exact Nat.ne_of_lt (Nat.lt_succ_self _)
 have hCle:s2.heap.objs.size<=G.objs.size:=by rw[hC];exact Nat.le_succ _
 have below:∀b,b<s2.heap.objs.size->b≠G.objs.size:=λb hb=>by rw[hC];exact Nat.ne_of_lt (Nat.lt_succ_of_lt hb)
 have keep:∀b o,s2.heap.get? b=some o->h₁.get? b=some o:=λb o e=>hsb₁.extBut b o (below b (Heap.lt_size e)) (Heap.get?_push_of_some _ (hH2 ▸ Heap.get?_push_of_some _ e));have hl:h₁.get? s2.heap.objs.size=some { cls:=.type "list",data:=.seq #[] 0 }:=hsb₁.extBut _ _ hDC (Heap.get?_push_of_some _ (hH2 ▸ Heap.get?_push_size _ rfl));have ho2:=T.obj _ _ st2;have ok:(yk X N' scope cl G.objs.size fp s2 H2).Ok:=zqz I2 hc L.kind hCle L.sub L.has f2 ho2;generalize hD:s2.heap.objs.size=D at hl hDC ⊢;generalize hCC:G.objs.size=C at hns₁ hsb₁ hDC hC hCle below ok ⊢;have hDle:s2.heap.objs.size<=D:=by rw[hD];exact Nat.le_refl _
 have I4:Inv (yk X N' scope cl C fp s2 H2) [] (xc k js σ) (upd H2 D (.lst [])) { s2 with heap:=h₁,toks:=s2.toks+([]:List (Str×Value)).length } :=
  zgq I2 ok hDle hCle hDC keep hns₁ hl L.sub L.cap L.hN L.hk
 obtain⟨W,⟨m0,w0⟩,turn⟩:=q D (I2.hok.fresh hDle);have tn0:tn 0 h₁:=T.keep _ _ _ st2 λb _ o e=>keep b o e;have fr0:∀b∈fp,upd H2 D (.lst []) b=none:=λb hb=>by
  obtain⟨o,e,_⟩:=ho2 b hb;rw[zn (Nat.ne_of_lt (Nat.lt_of_lt_of_le (Heap.lt_size e) hDle))];exact(f2 b hb).1
 have stat:∀{H':Hp},(∀b∈fp,H' b=none)->∀b∈fp,FpOk (yk X N' scope cl C fp s2 H2) [] H' b:=λhn b hb=>by
  refine⟨hn b hb,(ok.exf b hb).1,ok.exfs b hb,.inl hb,(ok.exf b hb).2,λp hp=>absurd (show p∈([]:List (Addr×Obj)) from hp) (by simp)⟩
 have loop:∀s₃:Shared,s₃ = { s2 with heap:=h₁,toks:=s2.toks+([]:List (Str×Value)).length } ->
   codeAny (model X.prog X.w) X.A (.compLoop (LC2 elt tg iter t2 i2 ifs ifs2 scope pos) 0 (.ref it) (.ref D) (compEnvC scope cl C X.env)) (LcEnd X pins σ Q (.ref D) C) s₃:=by
  rintro s₃ rfl;refine zlo (λn s'=>∃i σ' H',Inv (yk X N' scope cl C fp s2 H2) [] σ' H' s'/\tn i s'.heap/\(∀b∈fp,H' b=none)/\W i n σ' H') (hs2 C) ?_ m0 ⟨0,_,_,I4,tn0,fr0,w0⟩;intro n s3 zz;refine gg λG zk=>?_;obtain⟨i,σ3,H3,I3,st3,fr3,w3⟩:=zz;refine zk ?_;clear zk;rcases turn i n σ3 H3 w3 with⟨stop,qn⟩ |⟨go,step⟩
  ·refine thn (T.done (yk X N' scope cl C fp s2 H2) rfl rfl rfl rfl i [] s3 σ3 H3 (λ_ _=>False) I3 (stat fr3) st3 stop) λr s4 ⟨hr,J4⟩=>?_;subst hr;obtain⟨m,hn,_⟩:=id J4.loc;have hs:X.s₀.heap.objs.size<=C:=Nat.le_trans I2.sz hCle;refine⟨.next,D,H3,m,rfl,rfl,I2.call' (ch:=fp) J4.os J4.base J4.hok J4.bare (λb hb=>?_),qn,hn,J4.free,λz=>?_,hs,λx c h z=>?_,λp hp z=>?_⟩
   ·obtain⟨f0,f1,f2',f3,f4,f5⟩:=f2 b hb;exact⟨f3,f1,f4,f5⟩
   ·have:=I2.lt;rw[<-z]at this;exact absurd (Nat.lt_of_lt_of_le this hCle) (Nat.lt_irrefl _)
   ·obtain⟨v,o,z1,_⟩:=I2.cell x c h;have:=Heap.lt_size z1;rw[z]at this;exact absurd (Nat.lt_of_lt_of_le this hCle) (Nat.lt_irrefl _)
   ·have:=Heap.lt_size (I2.pin p hp).1;rw[z]at this;exact absurd (Nat.lt_of_lt_of_le this hCle) (Nat.lt_irrefl _)
  ·refine thn (T.item (yk X N' scope cl C fp s2 H2) rfl rfl rfl rfl i [] s3 σ3 H3 (λ_ _=>False) I3 (stat fr3) st3 go) λr s4 ⟨u,hr,h4⟩=>?_;subst hr;refine thn h4 λ_ s5 zr21=>?_;obtain⟨x,H5,I5,r5,y5,st5,fr5⟩:=zr21;have I5':=I5.pinned (stat fr5) (T.obj _ _ st5);refine thn (hg C fp s2 H2 _ s5 σ3 H5 x u _ I5' r5 (step x H5 y5)) λ_ s6 zr23=>?_;obtain⟨σ6,H6,I6,q6⟩:=zr23;refine thn (ht C fp s2 H2 _ s6 σ6 H6 _ I6 q6) λok s7 ⟨H7,I7,q7⟩=>?_
   have again:∀{σ8:St}{H8:Hp}{s8:Shared},Inv (yk X N' scope cl C fp s2 H2) ([]++zaj fp s5.heap) σ8 H8 s8->(∃m',m' < n/\W (i+1) m' σ8 H8)->∃m,m<n/\∃i σ' H',Inv (yk X N' scope cl C fp s2 H2) [] σ' H' s8/\tn i s8.heap/\(∀b∈fp,H' b=none)/\W i m σ' H':=λ{σ8 H8 s8} I8 n8=>by
    obtain⟨m',hm,w8⟩:=n8;refine⟨m',hm,i+1,σ8,H8,I8.unpinned,T.keep _ _ _ st5 λb hb o e=>(I8.pin (b,o) (List.mem_append_right _ (List.mem_append_right _ (we hb e)))).1,λb hb=>?_,w8⟩;obtain⟨o,e,d⟩:=T.obj _ _ st5 b hb;exact(I8.pin (b,o) (List.mem_append_right _ (List.mem_append_right _ (we hb e)))).2.1
   cases ok with
   |false=>
    rw[if_neg Bool.false_ne_true]at q7;exact again I7 q7
   |true=>
    rw[if_pos rfl]at q7;refine thn (hi2 C fp s2 H2 _ s7 σ6 H7 _ I7 q7) λy s8 h8=>thn h8 λitv s9 h9=>?_;obtain⟨it2,fp2,tn2,J2,H9,e9,I9,T2,st9,f9,W2,⟨m2,w2⟩,turn2⟩:=h9;subst e9;have inner:=zto (pos:=pos) (i1:=iter) (t1:=tg) (f1:=ifs) (i2:=i2) (hg2 C fp s2 H2) (ht2 C fp s2 H2) (he C fp s2 H2) I9 T2 st9 f9 w2 turn2;refine ztn (codeAny_mono inner λr s10 h10=>?_) (T2.self _ 0 _ _ _ st9 (codeAny_mono inner λr s10 h10=>?_))
    all_goals
     cases r with
     |ok f=>
      obtain⟨σ10,H10,I10,w10⟩:=h10;exact again I10 w10
     |error e=>exact h10
 exact codeAny_compStart_list (loop _ rfl) (T.self _ 0 _ _ _ tn0 (loop _ rfl))
end
def ztp:Option W->Option W
 |some (.own _)=>none
 |some (.tmp _)=>none
 |w=>w
def qi(is:List Nat)(n:Nat):DSt->DSt
 |[]=>[]
 |w::ws=>(if n∈is then none else ztp w)::qi is (n+1) ws
theorem zkc(is:List Nat):∀(σ:DSt) (n j:Nat),n+j∈is->j<σ.length->(qi is n σ)[j]?=some none
 |[],_,_,_,h=>absurd h (Nat.not_lt_zero _)
 |w::ws,n,0,h,_=>by
  rw[Nat.add_zero]at h;simp[qi,h]
 |w::ws,n,j+1,h,hl=>by
  rw[qi,List.getElem?_cons_succ];exact zkc is ws (n+1) j (by rw[show n+1+j=n+(j+1) by omega];exact h) (by simpa using hl)
section
variable {K:PySem.W.Frag}{H₀ H H':Hp}
theorem Slots.dry(is:List Nat)(p:Pers H H'){σD:DSt}{σ:St}{fp:List Addr}(h:Slots K H₀ H σD σ fp):∀n,Slots K H₀ H' (qi is n σD) σ []:=by
 induction h with
 |nil=>exact λn=>.nil
 |none t ih=>
  intro n;unfold qi
  split <;> exact .none (ih _)
 |val r t ih=>
  intro n;unfold qi
  split
  ·exact .none (ih _)
  ·exact .val (r.mono p) (ih _)
 |vw r t ih=>
  intro n;unfold qi
  split
  ·exact .none (ih _)
  ·exact .vw r (ih _)
 |vd r t ih=>
  intro n;unfold qi
  split
  ·exact .none (ih _)
  ·exact .vd r (ih _)
 |exc r t ih=>
  intro n;unfold qi
  split
  ·exact .none (ih _)
  ·exact .exc r (ih _)
 |scr r t ih=>
  intro n;unfold qi
  split
  ·exact .none (ih _)
  ·exact .scr r (ih _)
 |pen r t ih=>
  intro n;unfold qi
  split
  ·exact .none (ih _)
  ·exact .pen (p _ _ r rfl) (ih _)
 |tmp r t ih=>
  intro n;unfold qi
  split <;> exact .none (ih _)
 |own r t ih=>
  intro n;unfold qi
  split <;> exact .none (ih _)
theorem DOk.dry(is:List Nat)(p:Pers H H')(sm:Same H₀ H'){σD:DSt}{σ:St}(h:DOk K H₀ H σD σ):DOk K H₀ H' (qi is 0 σD) σ:=by
 obtain⟨s,fp,sl,nd,hf⟩:=h;exact⟨sm,[],sl.dry is p 0,List.nodup_nil,λa ha=>by cases ha⟩
end
def zfy(f:D->(Option D->Prop)->Prop):List D->List D->(List D->Prop)->Prop
 |[],acc,Q=>Q acc
 |e::es,acc,Q=>f e λo=>match o with
  |some y=>acc.length<sizeLine/\zfy f es (acc ++ [y]) Q
  |none=>zfy f es acc Q
def zhg(g:DTG)(tt:DTT)(ti2:DTF)(is2:List Nat)(g2:DTG)(tt2:DTT)(te:DTE)(σ0:DSt):List D->List D->(List D->Prop)->Prop
 |[],acc,Q=>Q acc
 |d::ds,acc,Q=>g d σ0 λσ1=>tt σ1 λb=>if b=true then ti2 σ1 λes=>zfy (lcF g2 tt2 te (qi is2 0 σ1)) es acc λacc'=>zhg g tt ti2 is2 g2 tt2 te σ0 ds acc' Q else zhg g tt ti2 is2 g2 tt2 te σ0 ds acc Q
def zp7(k:Nat)(js:List Nat)(ti:DTF)(g:DTG)(tt:DTT)(ti2:DTF)(is2:List Nat)(g2:DTG)(tt2:DTT)(te:DTE):DTF:=λσ Q=>ti σ λds=>zhg g tt ti2 is2 g2 tt2 te (x0 k js σ) ds [] Q
section
variable {X:Cx}{elt tg iter t2 i2:Expr}{ifs ifs2:List Expr}{scope:Scope}{pos:Pos}{cl:List (Str×Addr)}{N' capt:List Str}{k:Nat}{js is is2:List Nat}{ti ti2:DTF}{g g2:DTG}{tt tt2:DTT}{te:DTE}
theorem zlq{σ:St}{σD:DSt}{H₀ H1:Hp}{J:It}{ds:List D}{QD:List D->Prop}{Dd:Addr}(ok:DOk X.K H₀ H1 σD σ)(it:ItOk X.K Same J H1 ds)(his:∀j∈is,j<k)(his2:∀j∈is2,j<k)(hn:H1 Dd=none)(q1:zhg g tt ti2 is2 g2 tt2 te (x0 k js σD) ds [] QD):
  zde J Dd (cnG X.K is g) (cnT X.K tt) (cnI X.K Pers ti2) (cnG X.K is2 g2) (cnT X.K tt2) (cnE X.K te) (xc k js σ) H1 (λv H'=>∃a vs xs,v=.ref a/\Same H1 H'/\H1 a=none/\H' a=some (.lst vs)/\Reps X.K H' xs vs/\QD xs):=by
 refine⟨λi m σ' H'=>m=ds.length-i/\i<=ds.length/\Same H1 H'/\σ'.length=(xc k js σ).length/\(∀j,k<=j->σ'[j]?=(xc k js σ)[j]?)/\∃acc vs,H' Dd=some (.lst vs)/\Reps X.K H' acc vs/\zhg g tt ti2 is2 g2 tt2 te (x0 k js σD) (ds.drop i) acc QD,
  ⟨ds.length,rfl,Nat.zero_le _,ya hn _,rfl,λ_ _=>rfl,[],[],zp,.nil,q1⟩,?_⟩
 intro i m σ' H' zz;refine gg λG zk=>?_;obtain⟨zem,hi,sm,hl,fr,acc,vs,eD,ra,q1⟩:=zz;refine zk ?_;clear zk;subst zem;have ok1:DOk X.K H1 H' (x0 k js σD) σ':=by
  refine DOk.keepN ((ok.block k js).after sm) hl λj=>?_
  by_cases hj:j<k
  ·left;unfold x0;rw[List.getElem?_append_left (by simpa using hj),List.getElem?_replicate,if_pos hj]
  ·right;exact fr j (by omega)
 by_cases hlt:i<ds.length
 ·have e:ds[i]?=some ds[i]:=by simp[hlt]
  obtain⟨go,yl⟩:=it.go H' i ds[i] sm e;refine .inr ⟨go,λx H2 y=>?_⟩;obtain⟨s2,r2⟩:=yl x H2 y;rw[List.drop_eq_getElem_cons hlt]at q1;refine⟨H1,x0 k js σD,ds[i],_,ok1.after s2,r2,q1,λσ2 σD2 l2 ok2 f2 q2=>?_⟩;have fr2:∀j,k<=j->σ2[j]?=(xc k js σ)[j]?:=λj hj=>by rw[f2 j (λz=>absurd (his j z) (by omega)),fr j hj]
  refine⟨H1,σD2,_,ok2,q2,λb H4 s4 q4=>?_⟩
  cases b with
  |false=>
   rw[if_neg Bool.false_ne_true]at q4 ⊢;exact⟨ds.length-(i+1),by omega,rfl,hlt,(sm.trans s2).trans s4,l2.trans hl,fr2,acc,vs,s4 _ _ (s2 _ _ eD),(ra.same s2).same s4,q4⟩
  |true=>
   rw[if_pos rfl]at q4 ⊢;refine⟨H1,σD2,_,ok2.after s4,q4,λJ2 H5 es s5 it5 q5=>?_⟩;have ok5:=(ok2.after s4).after s5;refine⟨λi2 n2 σ6 H6=>n2=es.length-i2/\i2<=es.length/\Pers H5 H6/\Same H1 H6/\σ6.length=σ2.length/\(∀j,j∉is2->σ6[j]?=σ2[j]?)/\∃acc vs,H6 Dd=some (.lst vs)/\Reps X.K H6 acc vs/\zfy (lcF g2 tt2 te (qi is2 0 σD2)) (es.drop i2) acc (λacc'=>zhg g tt ti2 is2 g2 tt2 te (x0 k js σD) (ds.drop (i+1)) acc' QD),
    ⟨es.length,rfl,Nat.zero_le _,Pers.refl _,((sm.trans s2).trans s4).trans s5,rfl,λ_ _=>rfl,acc,vs,s5 _ _ (s4 _ _ (s2 _ _ eD)),((ra.same s2).same s4).same s5,q5⟩,?_⟩
   intro j2 n2 σ6 H6 zz;refine gg λG zk=>?_;obtain⟨zem,hj,p6,sm6,l6,f6,acc,vs,eD6,ra6,q6⟩:=zz;refine zk ?_;clear zk;subst zem;have okB:DOk X.K H1 H6 (qi is2 0 σD2) σ6:=by
    refine DOk.keepN (ok5.dry is2 p6 sm6) l6 λj=>?_
    by_cases hj:j∈is2
    ·by_cases hjl:j<σD2.length
     ·exact .inl (zkc is2 σD2 0 j (by rw[Nat.zero_add];exact hj) hjl)
     ·right;have h1:=ok5.len;rw[List.getElem?_eq_none (by omega),List.getElem?_eq_none (by omega)]
    ·exact .inr (f6 j hj)
   by_cases hlt2:j2<es.length
   ·have e2:es[j2]?=some es[j2]:=by simp[hlt2]
    obtain⟨go2,yl2⟩:=it5.go H6 j2 es[j2] p6 e2;refine .inr ⟨go2,λx7 H7 y7=>?_⟩;obtain⟨s7,r7⟩:=yl2 x7 H7 y7;rw[List.drop_eq_getElem_cons hlt2]at q6;refine⟨H1,qi is2 0 σD2,es[j2],_,okB.after s7,r7,q6,λσ8 σD8 l8 ok8 f8 q8=>?_⟩;have fr8:∀j,j∉is2->σ8[j]?=σ2[j]?:=λj hj=>(f8 j hj).trans (f6 j hj);refine⟨H1,σD8,_,ok8,q8,λb H9 s9 q9=>?_⟩
    cases b with
    |false=>
     rw[if_neg Bool.false_ne_true]at q9 ⊢;exact⟨es.length-(j2+1),by omega,rfl,hlt2,p6.trans (s7.trans s9).pers,(sm6.trans s7).trans s9,l8.trans l6,fr8,acc,vs,s9 _ _ (s7 _ _ eD6),(ra6.same s7).same s9,q9⟩
    |true=>
     rw[if_pos rfl]at q9 ⊢;refine⟨H1,σD8,_,ok8.after s9,q9,λy H10 dy s10 r10 q10=>?_⟩;have eD10:=s10 _ _ (s9 _ _ (s7 _ _ eD6));have ra10:=((ra6.same s7).same s9).same s10;refine⟨vs,eD10,by rw[<-ra10.length];exact q10.1,es.length-(j2+1),by omega,rfl,hlt2,(p6.trans ((s7.trans s9).trans s10).pers).trans (wz eD10 rfl),?_,l8.trans l6,fr8,acc ++ [dy],vs ++ [y],zp,?_,q10.2⟩
     ·exact Same.but (((sm6.trans s7).trans s9).trans s10) hn But.write
     ·exact(ra10.append (.cons r10 .nil)).mono (wz eD10 rfl)
   ·have e2:j2=es.length:=by omega
    subst e2;rw[List.drop_length]at q6;exact .inl ⟨it5.stop H6 p6,ds.length-(i+1),by omega,rfl,hlt,sm6,(l6.trans l2).trans hl,λj hj=>(f6 j λz=>absurd (his2 j z) (by omega)).trans (fr2 j hj),acc,vs,eD6,ra6,q6⟩
 ·have e:i=ds.length:=by omega
  subst e;rw[List.drop_length]at q1;exact .inl ⟨it.stop H' sm,Dd,vs,acc,rfl,sm,hn,eD,ra,q1⟩
end
section
variable {X:Cx}
theorem zlr{i:Nat}{x:Str}{elt tg iter t2 i2:Expr}{ifs ifs2:List Expr}{wi2:TI}{g2:TG}{tt2:TT}{scope:Scope}{pos pos' spos:Pos}{cl:List (Str×Addr)}{N' capt:List Str}{k:Nat}{js:List Nat}{wi:TI}{g:TG}{tt:TT}{te:TE}(hN:X.N.Nodup)(hi':X.N[i]?=some x)(hx:Loc X.env.scope x)(hc:X.calm=true)(L:zdx X scope cl N' capt k js)
  (hi:PI X tg iter wi) (hg:∀C fp s2 H2,PG (yk X N' scope cl C fp s2 H2) tg g) (ht:∀C fp s2 H2,PTs (yk X N' scope cl C fp s2 H2) ifs tt) (hi2:∀C fp s2 H2,PI (yk X N' scope cl C fp s2 H2) t2 i2 wi2) (hg2:∀C fp s2 H2,PG (yk X N' scope cl C fp s2 H2) t2 g2) (ht2:∀C fp s2 H2,PTs (yk X N' scope cl C fp s2 H2) ifs2 tt2) (he:∀C fp s2 H2,PE (yk X N' scope cl C fp s2 H2) elt te) (hs2:∀C x,foldedSetIterable i2 (compEnvC scope cl C X.env) x=pure x:=by intro _ _;rfl)
  (hsw:swapsWith (LC2 elt tg iter t2 i2 ifs ifs2 scope pos) (some (.Name x pos')) spos.line X.env=pure true:=by rfl)
  (hs:∀x,foldedSetIterable iter X.env x=pure x:=by intro _;rfl) (hf:X.fn x=true\/X.env.scope.names.lookup x=some .local:=by first|exact .inl rfl|exact .inr rfl|assumption):PS X (.Assign [.Name x pos'] (LC2 elt tg iter t2 i2 ifs ifs2 scope pos) spos) (zo2 (zvo k js wi g tt wi2 g2 tt2 te) (zmd i)):=by
 intro pins s σ H D I h;have h:zvo k js wi g tt wi2 g2 tt2 te σ H (λv H1=>D.nx (σ.set i (some v)) H1):=h;rw[exec_Assign_Name_used _ _ _ _ hsw];refine wpAny_bind (wpAny_standAt (wpAny_bind ?_));show wpAny _ X.A (do let _ <-comprehension (LC2 elt tg iter t2 i2 ifs ifs2 scope pos) scope X.env _ (newList []) false (eval iter X.env) (some (assign (.Name x pos') X.env))) _ _ s;refine wpAny_bind (wpAny_mono (wpAny_comprehension_free (use:=some (assign (.Name x pos') X.env)) (Q:=λ_ s'=>SP X pins D .next s') rfl hs L.clos L.kind L.names
  (thn (hi pins s σ H _ I h) λv s1 h1=>thn h1 λitv s2 h2=>?_)) (λ_ s' hq=>wpAny_pure (wpAny_pure hq)) λ_ _ e=>e)
 obtain⟨it,fp,tn,J,H2,e,I2,T,st2,f2,q⟩:=h2;subst e;refine thn (zlp (E:=X.xe) hc L hg ht hi2 hg2 ht2 he hs2 I2 T st2 f2 q) λacc s3 h3=>thn h3 λcenv s4 h4=>codeAny_mono h4 λr s' hr=>?_;obtain⟨f,D',H',m,rfl,rfl,J',qq,hn,b1,b2,b3,b4,b5⟩:=hr;show wpAny _ X.A (assign (.Name x pos') X.env (.ref D')) _ _ _;refine wpAny_assign_Name (zbg (v:=.ref D') J' hN hi' hx rfl (λs'' J'' hsb=>?_) hf);obtain⟨a,hsb,ha⟩:=hsb;have hne:cenv.locals≠a:=by
  rcases ha with z|z
  ·rw[z];exact b2
  ·exact λz'=>b4 x a z z'.symm
 exact⟨m,hn.sameBut hsb hne,λh' hs'=>⟨_,H',LcEnd.let_go J'' b1 b2 b3 b4 b5 hs',qq⟩⟩
variable {elt tg iter t2 i2:Expr}{ifs ifs2:List Expr}{scope:Scope}{pos:Pos}{cl:List (Str×Addr)}{N' capt:List Str}{k:Nat}{js is is2:List Nat}{ti ti2:DTF}{g g2:DTG}{tt tt2:DTT}{te:DTE}
theorem ziy{i:Nat}{x:Str}{pos' spos:Pos}(hN:X.N.Nodup)(hi':X.N[i]?=some x)(hx:Loc X.env.scope x)(hc:X.calm=true)(L:zdx X scope cl N' capt k js)
  (hi:DIw X tg iter ti) (hg:∀C fp s2 H2,DG (yk X N' scope cl C fp s2 H2) tg is g) (ht:∀C fp s2 H2,DTs (yk X N' scope cl C fp s2 H2) ifs tt)
  (hi2:∀C fp s2 H2,DI (yk X N' scope cl C fp s2 H2) t2 i2 ti2) (hg2:∀C fp s2 H2,DG (yk X N' scope cl C fp s2 H2) t2 is2 g2) (ht2:∀C fp s2 H2,DTs (yk X N' scope cl C fp s2 H2) ifs2 tt2)
  (he:∀C fp s2 H2,DE (yk X N' scope cl C fp s2 H2) elt te) (his:∀j∈is,j<k) (his2:∀j∈is2,j<k) (hs2:∀C x,foldedSetIterable i2 (compEnvC scope cl C X.env) x=pure x)
  (hsw:swapsWith (LC2 elt tg iter t2 i2 ifs ifs2 scope pos) (some (.Name x pos')) spos.line X.env=pure true) (hs:∀x,foldedSetIterable iter X.env x=pure x) (hf:X.fn x=true\/X.env.scope.names.lookup x=some .local)
  {pins:List (Addr×Obj)}{s:Shared}{σ:St}{H H₀:Hp}{σD:DSt}{Q:List D->Prop} (I:Inv X pins σ H s) (ok:DOk X.K H₀ H σD σ) (q:zp7 k js ti g tt ti2 is2 g2 tt2 te σD Q) :
  wpAny (model X.prog X.w) X.A (exec (.Assign [.Name x pos'] (LC2 elt tg iter t2 i2 ifs ifs2 scope pos) spos) X.env) (λf s'=>f=.next/\∃a H' vs xs,Inv X pins (σ.set i (some (.ref a))) H' s'/\Same H H'/\H a=none/\H' a=some (.lst vs)/\Reps X.K H' xs vs/\Q xs) X.xe s:=by
 refine thn (zlr (wi:=cnI X.K Same ti) (g:=cnG X.K is g) (tt:=cnT X.K tt) (wi2:=cnI X.K Pers ti2) (g2:=cnG X.K is2 g2) (tt2:=cnT X.K tt2) (te:=cnE X.K te) hN hi' hx hc L hi.pi (λC fp s2 H2=>(hg C fp s2 H2).pg) (λC fp s2 H2=>(ht C fp s2 H2).pts) (λC fp s2 H2=>(hi2 C fp s2 H2).pi) (λC fp s2 H2=>(hg2 C fp s2 H2).pg) (λC fp s2 H2=>(ht2 C fp s2 H2).pts) (λC fp s2 H2=>(he C fp s2 H2).pe) hs2 hsw hs hf pins s σ H
  { nx:=λσ' H'=>∃a vs xs,σ'=σ.set i (some (.ref a))/\Same H H'/\H a=none/\H' a=some (.lst vs)/\Reps X.K H' xs vs/\Q xs,rt:=λ_ _=>False } I ?_) λf s' z=>?_
 ·refine⟨H₀,σD,_,ok,q,λJ H1 ds s1 it q1 Dd hn=>?_⟩;obtain⟨W,w0,turn⟩:=zlq (ok.after s1) it his his2 hn q1;refine⟨W,w0,λi m σ' H' w=>?_⟩;rcases turn i m σ' H' w with⟨st,aa,vs,xs,e,sm,n,e2,r,qd⟩|h
  ·exact .inl ⟨st,aa,vs,xs,by rw[e],s1.trans sm,s1.free n,e2,r,qd⟩
  ·exact .inr h
 ·cases f with
  |next=>obtain⟨σ',H',I',a,vs,xs,rfl,sm,n,e,r,q⟩:=z;exact⟨rfl,a,H',vs,xs,I',sm,n,e,r,q⟩
  |ret u=>obtain⟨_,_,_,_,_,z⟩:=z;exact z.elim
  |brk=>obtain⟨_,_,_,z⟩:=z;exact z.elim
  |cont=>obtain⟨_,_,_,z⟩:=z;exact z.elim
theorem ze3{i:Nat}{x:Str}{pos' spos:Pos}(hN:X.N.Nodup)(hi':X.N[i]?=some x)(hx:Loc X.env.scope x)(hc:X.calm=true)(L:zdx X scope cl N' capt k js)
  (hi:DIw X tg iter ti) (hg:∀C fp s2 H2,DG (yk X N' scope cl C fp s2 H2) tg is g) (ht:∀C fp s2 H2,DTs (yk X N' scope cl C fp s2 H2) ifs tt)
  (hi2:∀C fp s2 H2,DI (yk X N' scope cl C fp s2 H2) t2 i2 ti2) (hg2:∀C fp s2 H2,DG (yk X N' scope cl C fp s2 H2) t2 is2 g2) (ht2:∀C fp s2 H2,DTs (yk X N' scope cl C fp s2 H2) ifs2 tt2)
  (he:∀C fp s2 H2,DE (yk X N' scope cl C fp s2 H2) elt te) (his:∀j∈is,j<k:=by decide) (his2:∀j∈is2,j<k:=by decide) (hs2:∀C x,foldedSetIterable i2 (compEnvC scope cl C X.env) x=pure x:=by intro _ _;rfl)
  (hsw:swapsWith (LC2 elt tg iter t2 i2 ifs ifs2 scope pos) (some (.Name x pos')) spos.line X.env=pure true:=by rfl) (hs:∀x,foldedSetIterable iter X.env x=pure x:=by intro _;rfl) (hf:X.fn x=true\/X.env.scope.names.lookup x=some .local:=by first|exact .inl rfl|exact .inr rfl|assumption) :
  DS X (.Assign [.Name x pos'] (LC2 elt tg iter t2 i2 ifs ifs2 scope pos) spos) (znk i (dFz (zp7 k js ti g tt ti2 is2 g2 tt2 te))):=⟨λpins s σ H H₀ σD Dn I ok q=>by
 refine thn (ziy hN hi' hx hc L hi hg ht hi2 hg2 ht2 he his his2 hs2 hsw hs hf I ok q) λf s' ⟨ef,a,H',vs,xs,I',sm,n,e,r,qd⟩=>?_;subst ef;obtain⟨H'',J,sm',r'⟩:=zal I' sm n e r;exact⟨_,H'',_,J,(ok.after sm').setV r' i,sm'.pers,qd⟩⟩
end
section
variable {X:Cx}{e:Expr}{es:List Expr}{pos:Pos}{i j:Nat}{sp:zda}{t:zdb}
def zkd(j i:Nat)(sp:zda)(t:zdb):DTS:=λDn σ=>match σ[j]? with
 |some (some (.own (.lst _)))=>zdc i sp t (λd σ'=>match σ'[j]? with
  |some (some (.own (.lst xs)))=>xs.length<sizeLine/\Dn.nx (clr (σ'.set j (some (.own (.lst (xs ++ [d]))))))
  |_=>False) σ
 |_=>False
theorem zp8(j:Nat){x:Str}{p1 apos cpos:Pos}(P:PE X e (ziv X.K i sp t))(hN:X.N[j]?=some x:=by rfl)(hv:Vis X.env.scope x:=by first|exact Or.inl rfl|exact Or.inr (Or.inl rfl)|exact Or.inr (Or.inr rfl))(hd:(x ==("__debug__" : Str))=false:=by decide)
  (hcd:(x ==("__classdict__" : Str))=false:=by decide)
  (hbase:attributeBase (.Name x p1) "append" X.env (eval (.Name x p1) X.env)=eval (.Name x p1) X.env:=by rfl)
  (hfew:((backTo cpos (starEach (e :: []) X.env)).all (λx=>!x.1) && (backToKw cpos (keywordEach [] X.env)).all (λx=>x.1.isSome)
   && decide ((e :: []).length+([]:List Keyword).length+(if ([]:List Keyword).isEmpty then 0 else 1)<30))=true:=by rfl)
  (hline:(apos.endLine == cpos.line)=true:=by rfl) (hst:starEach (e :: []) X.env=(false,eval e X.env)::starEach [] X.env:=by rfl) (hplain:(backTo cpos (starEach [] X.env)).any (·.1)=false:=by rfl)
  (hs:swapsWith (.Call (.Attribute (.Name x p1) "append" apos) [e] [] cpos) none pos.line X.env=pure false:=by rfl):DS X (.Expr (.Call (.Attribute (.Name x p1) "append" apos) [e] [] cpos) pos) (zkd j i sp t) :=
 DS.of (zjb (zgp PySem.F.plainAttrs_list PySem.F.slot_list_append PySem.F.type_list_append jz (wc (i:=j) hN hv hd hcd) (xz P vf hst) hbase hfew hline hst hplain) hs) λσ H H₀ σD Dn ok q=>by
  unfold zkd at q
  split at q
  ·next xs eo=>
   obtain⟨a,vs,e1,e2,r,n⟩:=ok.ownL eo;refine⟨.ref a,e1,.inl ⟨rfl,vs,SqL.of e2⟩,ziw ok q λv H' d σD' ok' pr rp qd=>?_⟩
   split at qd
   ·next ys ey=>
    obtain⟨a',ws,e1',e2',r',n'⟩:=ok'.ownL ey;rw[e1]at e1'
    cases e1';exact⟨a,ws,v,rfl,rfl,e2',by rw[<-r'.length];exact qd.1,_,ok'.write ey e1 e2' (r'.append (.cons rp .nil)),pr.trans (wz e2' rfl),qd.2⟩
   ·exact qd.elim
  ·exact q.elim
end
section
variable {K:PySem.W.Frag}{H₀ H Hb H':Hp}{σD:DSt}{σ:St}
end
section
variable {X:Cx}{elt tg iter:Expr}{ifs:List Expr}{scope:Scope}{pos:Pos}{cl:List (Str×Addr)}{N' capt:List Str}{k:Nat}{js is:List Nat}{ti:DTF}{g:DTG}{tt:DTT}{sp:zda}{t:zdb}
end
section
variable {X:Cx}
variable {o e:Expr}{to te:DTE}{apos cpos:Pos}
end
end L2
namespace SQ
open PySem PyProof.Rows
set_option autoImplicit false
def zwq(h:Heap)(v:Value)(is:List Int):Prop:=∃a its n t u js,v=.ref a/\IsTup h a its/\its.toList = [.int n t,u]/\RefIs h u js/\is=n::js
open Classical in
noncomputable def zwr (h:Heap) (v:Value):Option (List Int):=if x:∃is,zwq h v is then some x.choose else none
@[reducible] noncomputable def prK (h:Heap):KeyKind:={ zc6 h with keyOf:=λv=>zwr h v }
section
variable {prog:Program}{w:World}{A:Around}{E:Value->Shared->Prop}{s:Shared}
theorem items_int{vs:List Value}{ns:List Int}(h:IntsAre vs ns):ItemsAre (intKind prog w) ns vs:=by
 induction h with
 |nil=>exact .nil
 |cons n t h ih=>exact .cons (by simp[intKind,Value.isInt]) ih
theorem All2.perm{α β:Type}{R:α->β->Prop}{as' as:List α}(p:as'.Perm as):∀{bs:List β},All2 R as bs->∃bs',All2 R as' bs'/\bs'.Perm bs:=by
 induction p with
 |nil=>intro bs h;exact⟨bs,h,.refl _⟩
 |cons x p ih=>
  intro bs h
  cases h with
  |cons h t=>
   obtain⟨bs',h',p'⟩:=ih t;exact⟨_,.cons h h',p'.cons _⟩
 |swap x y l=>
  intro bs h
  cases h with
  |cons h t=>
   cases t with
   |cons h2 t=>exact⟨_,.cons h2 (.cons h t),.swap _ _ _⟩
 |trans p1 p2 ih1 ih2=>
  intro bs h;obtain⟨b1,h1,q1⟩:=ih2 h;obtain⟨b2,h2,q2⟩:=ih1 h1;exact⟨b2,h2,q2.trans q1⟩
theorem All2.pair{α β:Type}{R:α->β->Prop}{T:α->α->Prop}{U:β->β->Prop}(f:∀a b a' b',R a b->R a' b'->T a a'->U b b'){as:List α}{bs:List β}(h:All2 R as bs)(p:as.Pairwise T):bs.Pairwise U:=by
 induction h with
 |nil=>exact .nil
 |@cons a b as bs h t ih=>
  rw[List.pairwise_cons]at p ⊢;refine⟨λb' hb=>?_,ih p.2⟩;have:∀{as:List α}{bs:List β},All2 R as bs->b'∈bs->∃a'∈as,R a' b':=λ{as bs} h=>by
   induction h with
   |nil=>intro z;cases z
   |cons h _ ih=>
    intro z;rcases List.mem_cons.mp z with rfl|z
    ·exact⟨_,List.mem_cons_self,h⟩
    ·obtain⟨a',m,r⟩:=ih z;exact⟨a',List.mem_cons_of_mem _ m,r⟩
  obtain⟨a',m,r⟩:=this t hb;exact f _ _ _ _ h r (p.1 a' m)
end
end SQ
namespace L2
open PySem PySem.Spec PyProof.Rows SQ
def zfz(X:Cx)(pins:List (Addr×Obj))(σ:St)(f:Addr)(x:V)(H:Hp)(k:D):Prop :=
 ∀(ps:List (Addr×Obj)) (s:Shared) (H1:Hp) (u:Value),Inv X (pins++ps) σ H1 s->Same H H1->RelV x u ->
  wpAny (model X.prog X.w) X.A.in1.in1 (call (.ref f) [u]) (λkv s'=>∃H2 v,RelV v kv/\Rep X.K H2 k v/\Inv X (pins++ps) σ H2 s'/\Same H1 H2) (λ_ _=>False) s
section
variable {X:Cx}{pins:List (Addr×Obj)}{σ:St}{H:Hp}{s:Shared}
end
end L2
namespace L2
open PySem PySem.Spec PyProof.Rows SQ
section
variable {X:Cx}{pins:List (Addr×Obj)}{σ:St}{H:Hp}{s:Shared}
end
section
variable {X:Cx}{a body:Expr}{ta:DTF}{tb:DTE}{p pos kp lp:Pos}{k:Nat}{P c:Addr}{q y:Str}{params:Arguments}{scope:Scope}{N:List Str}
end
end L2
namespace PySem.AutoSeq1
open PySem.MeetsSeq PySem.MeetsSeq2 PySem.MeetsSeq3
end PySem.AutoSeq1
namespace L2
open PySem PySem.Spec PyProof.Rows
section
variable {X:Cx}{e:Expr}{te:DTE}{pos:Pos}
end
section
variable {X:Cx}
end
section
variable {K:PySem.W.Frag}{H:Hp}
end
section
variable {X:Cx}{tk te:DTE}{pos:Pos}
end
section
variable {X:Cx}{tk te:DTE}{pos:Pos}
end
theorem KV.at{κ:Type}:∀{vs:List (κ×V)}{ws:List (κ×Value)}{i:Nat}{k:κ}{v:V},KV vs ws->vs[i]?=some (k,v)->∃u,ws[i]?=some (k,u)
 |[],_,_,_,_,_,e=>by simp at e
 |p::vs,ws,i,k,v,h,e=>by
  cases h with
  |cons r t=>
   cases i with
   |zero=>
    simp at e;subst e
    rename_i b l
    obtain⟨k',u⟩:=b;have z:k=k':=r.1;subst z;exact⟨u,rfl⟩
   |succ i=>
    obtain⟨u,hu⟩:=KV.at t (show vs[i]?=some (k,v) by simpa using e);exact⟨u,by simpa using hu⟩
section
variable {X:Cx}{pins:List (Addr×Obj)}{σ:St}{H:Hp}{s:Shared}{a:Addr}{o:Obj}
end
section
variable {X:Cx}{tg:Expr}
theorem RepK.at{K:PySem.W.Frag}{H:Hp}:∀{kvs:List (D×D)}{vs:List (Key×V)}{i:Nat}{d:D},RepK K H kvs vs->(kvs.map (·.1))[i]?=some d->∃k v,vs[i]?=some (k,v)/\d=kD k
 |_,_,i,d,.nil,e=>by simp at e
 |_,_,i,d,.cons (k:=k) (v:=v) r t,e=>by
  cases i with
  |zero=>simp at e;exact⟨k,v,rfl,e.symm⟩
  |succ i=>
   obtain⟨k',v',h1,h2⟩:=RepK.at t (i:=i) (by simpa using e);exact⟨k',v',by simpa using h1,h2⟩
theorem RepK.len{K:PySem.W.Frag}{H:Hp}:∀{kvs:List (D×D)}{vs:List (Key×V)},RepK K H kvs vs->kvs.length=vs.length
 |_,_,.nil=>rfl
 |_,_,.cons r t=>by rw[List.length_cons,List.length_cons,RepK.len t]
end
section
variable {K:PySem.W.Frag}{H₀ H:Hp}{σD:DSt}{σ:St}
def dP(ks:List (Key×D)):List (D×D):=ks.map λp=>(kD p.1,p.2)
theorem ztq{a b:Key}(h:kD a=kD b):a=b:=by
 cases a <;> cases b <;> simp[kD]at h <;> rw[h]
theorem RepK.kv:∀{ks:List (Key×D)}{vs:List (Key×V)},RepK K H (dP ks) vs->RepKV K H ks vs
 |[],vs,h=>by cases h;exact RepKV.nil'
 |(k,d)::ks,vs,h=>by
  generalize hg:dP ((k,d)::ks)=l at h
  cases h with
  |nil=>cases hg
  |cons r t=>
   simp only[dP,List.map_cons,List.cons.injEq,Prod.mk.injEq]at hg;obtain⟨⟨h1,rfl⟩,rfl⟩:=hg
   cases ztq h1;exact RepKV.cons r (RepK.kv t)
end
section
variable {X:Cx}
end
section
variable {X:Cx}{o:Expr}{td:TE}{p pos apos cpos:Pos}
end
section
variable {prog:Program}{w:World}{A:Around}{E:Value->Shared->Prop}
variable {κ:Type}[DecidableEq κ]{knd:KeyKind prog w κ}
end
section
variable {X:Cx}{e:Expr}{p pos:Pos}
end
section
variable {X:Cx}
end
section
variable {X:Cx}{a:Expr}{te:DTE}{p pos:Pos}
end
structure zw3(K:PySem.W.Frag)(mg:Str->Option Value)(c:Str)(C:Addr)(fs:List Str):Prop where
 m:mg c=some (.ref C)
 n:PySem.W.nsIn K mainGlobals c=some (some (.ref C))
 c:Cls K C
 f:∀f∈fs,zrv K C f
section
variable {X:Cx}{e e2:Expr}{es:List Expr}{te:DTE}{t:DTP}{pos:Pos}{c f m x:Str}{C g:Addr}{i j k k':Nat}{ps fs:List Str}{sp:zda}{tg:zdb}
end
section
variable {X:Cx}
end
section
variable {X:Cx}{tg:Expr}{a b c:Expr}{p p2 pos pos2:Pos}{t:DTF}
section
variable {prog:Program}{w:World}{A:Around}{E:Value->Shared->Prop}{s:Shared}
end
end
section
open PySem.Builtin PySem.Builtin.Str
end
section
variable {X:Cx}{e:Expr}{es:List Expr}{pos:Pos}
structure DEk(X:Cx)(e:Expr)(t:DTE):Prop where
 run:∀(pins:List (Addr×Obj)) (s:Shared) (σ:St) (H H₀:Hp) (σD:DSt) (Q:D->Prop),1<=s.toks->Inv X pins σ H s->DOk X.K H₀ H σD σ->t σD Q->wpAny (model X.prog X.w) X.A (eval e X.env) (DEnd X pins σ H Q) X.xe s
structure DVk(X:Cx)(e:Expr)(t:DTE):Prop where
 run:∀(pins:List (Addr×Obj)) (s:Shared) (σ:St) (H H₀:Hp) (σD:DSt) (Q:D->Prop),1<=s.toks->Inv X pins σ H s->DOk X.K H₀ H σD σ->t σD Q->wpAny (model X.prog X.w) X.A (eval e X.env) (zq3 X pins σ H Q) X.xe s
structure DFk(X:Cx)(e:Expr)(t:DTF):Prop where
 run:∀(pins:List (Addr×Obj)) (s:Shared) (σ:St) (H H₀:Hp) (σD:DSt) (Q:List D->Prop),1<=s.toks->Inv X pins σ H s->DOk X.K H₀ H σD σ->t σD Q->wpAny (model X.prog X.w) X.A (eval e X.env) (zel X pins σ H Q) X.xe s
structure DAk(X:Cx)(es:List Expr)(t:DTF):Prop where
 run:∀(pos:Pos) (pins:List (Addr×Obj)) (s:Shared) (σ:St) (H H₀:Hp) (σD:DSt) (Q:List D->Prop),1<=s.toks->Inv X pins σ H s->DOk X.K H₀ H σD σ->t σD Q ->
  wpAny (model X.prog X.w) X.A (spliced (backTo pos (starEach es X.env))) (λus s'=>∃vs H' ds,Inv X pins σ H' s'/\Vals vs us/\Same H H'/\Reps X.K H' ds vs/\Q ds) X.xe s
structure DSk(X:Cx)(st:Stmt)(t:DTS):Prop where
 run:∀(pins:List (Addr×Obj)) (s:Shared) (σ:St) (H H₀:Hp) (σD:DSt) (Dn:vy),1<=s.toks->Inv X pins σ H s->DOk X.K H₀ H σD σ->t Dn σD->wpAny (model X.prog X.w) X.A (exec st X.env) (DSP X pins H₀ H Dn) X.xe s
structure zws(X:Cx)(st:List Stmt)(t:DTS):Prop where
 run:∀(pins:List (Addr×Obj)) (s:Shared) (σ:St) (H H₀:Hp) (σD:DSt) (Dn:vy),1<=s.toks->Inv X pins σ H s->DOk X.K H₀ H σD σ->t Dn σD->wpAny (model X.prog X.w) X.A (execs st X.env) (DSP X pins H₀ H Dn) X.xe s
theorem DS.k{st:Stmt}{t:DTS}(h:DS X st t):DSk X st t:=⟨λpins s σ H H₀ σD Dn _ I ok q=>h.run pins s σ H H₀ σD Dn I ok q⟩
theorem DSs.k{st:List Stmt}{t:DTS}(h:DSs X st t):zws X st t:=⟨λpins s σ H H₀ σD Dn _ I ok q=>h.run pins s σ H H₀ σD Dn I ok q⟩
end
section
variable {X:Cx}{pins:List (Addr×Obj)}{σ:St}{H:Hp}{s:Shared}{P c:Addr}{q:Str}
theorem zls{clos:List (Str×Addr)}{params:Arguments}{body:Expr}{scope:Scope}{pos:Pos}{fl:Nat}{E:Value->Shared->Prop}{Q:Value->Shared->Prop}(I:Inv X pins σ H s)(hT:j9 q P H)(C:PySem.W.CodeHd X.base c P)(hcode:X.env.code=.ref c)(hB:jq X.mg X.base)
  (hcl:closureFor scope X.env=pure clos)
  (h:∀(f c':Addr) (oc:Obj) (u:HO) (ctv:Value) (H':Hp) (s':Shared),Inv X pins σ H' s'->Same H H'->H' c'=some (.frz oc u)->zi9 oc q->s.heap.objs.size<=f->s'.heap.objs.size<=f+1->H' f=none ->
   s'.heap.get? f=some (PySem.W.kla_obj "<lambda>" q params body scope clos ((X.mg "__name__").getD .none) c' ctv)->Q (.ref f) s') :
  wpAny (model X.prog X.w) X.A (makeFunction "<lambda>" q params (.expr body) scope X.env [] [] [] pos fl) Q E s:=by
 obtain⟨ps,gP,tr,ent⟩:=I.tabOk hT;have hPn:H P≠none:=by obtain⟨t,m,e⟩:=hT;rw[e];simp
 cases hc:codeAmong pos ps.toList with
 |none=>
  refine PySem.W.kla_makeFunction (mg:=X.mg) hcl I.ok.glob (I.mod.glob.keeps I.bk) hcode (C.keeps I.bk) gP tr hc (I.globNe hPn) (I.bltAt hB hPn) λc' ctv h' tk hx hge hlt hrec htb=>?_;obtain⟨c2,oc,vs,tq,e2,hoc,hd,hv⟩:=hrec
  cases e2;have fr:H c'=none:=I.hok.fresh hge;have pu:∀b o,h'.get? b=some o->(h'.push (PySem.W.kla_obj "<lambda>" q params body scope clos ((X.mg "__name__").getD .none) c' ctv)).get? b=some o:=λb o e=>Heap.get?_push_of_some _ e;have nP:∀b,H b=none->b≠P:=λb n z=>hPn (z ▸ n);have neC:∀b o,s.heap.get? b=some o->b≠c':=λb o e=>Nat.ne_of_lt (Nat.lt_of_lt_of_le (Heap.lt_size e) hge);have sH:Same H (upd H c' (.frz oc (.own 0))):=λb o e=>by rw[zn (yj e fr)];exact e
  have un:Un X.fs [] H (upd H c' (.frz oc (.own 0))) s.heap (h'.push (PySem.W.kla_obj "<lambda>" q params body scope clos ((X.mg "__name__").getD .none) c' ctv)):=by
   refine⟨λb o e n _ _=>pu _ _ (hx b o (nP b n) e),λb o e n _ _=>⟨o.slots,pu _ _ (hx b o (nP b n) e)⟩,λb o e n _=>by rw[zn (neC b o e)];exact n,λb o e _=>?_,λb xs e=>sH b _ e,λb o u e=>sH b _ e,λb ls e=>⟨#[],by rw[sH b _ e];simp⟩⟩
   by_cases z:b=P
   ·rw[z];exact⟨_,pu _ _ htb⟩
   ·exact⟨o,pu _ _ (hx b o z e)⟩
  have hk:HOk X.prog X.w (upd H c' (.frz oc (.own 0))) (h'.push (PySem.W.kla_obj "<lambda>" q params body scope clos ((X.mg "__name__").getD .none) c' ctv)):=λb u e=>by
   by_cases z:b=c'
   ·subst z;rw[zp]at e
    cases e;exact⟨pu _ _ hoc,_,pu _ _ hoc⟩
   ·rw[zn z]at e
    by_cases zP:b=P
    ·subst zP;obtain⟨t,m,e'⟩:=hT;rw[e']at e
     cases e;obtain⟨ps',q',t',lab,r1,_,_⟩:=(show zgg H s.heap b _ from I.hok b _ e')
     have q1:=zka lab
     cases q1;refine⟨_,q,_,lab,pu _ _ htb,by rw[Array.toList_append];exact TriplesOk_snoc _ _ _ _ tr,λpos' cv y=>?_⟩;rw[Array.toList_append]at y;rcases zix _ tr y with y|rfl
     ·obtain⟨c3,o3,u3,r1,r2,r3⟩:=ent _ _ y;exact⟨c3,o3,u3,r1,sH _ _ r2,r3⟩
     ·exact⟨c',oc,_,rfl,zp,vs,tq,hd,hv⟩
    ·refine(I.hok b u e).stay (λd v hd' g=>pu _ _ (hx d v ?_ g)) (λd g=>sH _ _ g) (λd xs g=>sH _ _ g) λd o u g=>sH _ _ g;rcases hd' with rfl|hd'
     ·exact zP
     ·rintro rfl;obtain⟨t,m,e'⟩:=hT;rw[e']at hd'
      cases hd'
  refine h _ c' oc (.own 0) ctv _ _ (I.un (t':=tk) un hk) sH zp ⟨vs,tq,hd,hv⟩ (Nat.le_trans hge (Nat.le_of_lt hlt)) (Nat.le_of_eq (Heap.size_push ..)) ?_ (Heap.get?_push_size _ rfl);rw[zn (Nat.ne_of_gt hlt)];exact I.hok.fresh (Nat.le_trans hge (Nat.le_of_lt hlt))
 |some cv=>
  obtain⟨c',oc,u,rfl,e,co⟩:=ent _ _ hc;refine PySem.W.kla_makeFunctionHit (mg:=X.mg) hcl I.ok.glob (I.mod.glob.keeps I.bk) hcode (C.keeps I.bk) gP tr hc (I.bltAt hB hPn) λctv h' tk hk hsz=>?_;exact h _ c' oc u ctv H _ (I.kept (t':=tk) λb o g=>Heap.get?_push_of_some _ (hk b o g)) (Same.refl _) e co hsz (Nat.le_of_eq (Heap.size_push ..)) (I.hok.fresh hsz) (Heap.get?_push_size _ rfl)
end
section
variable {X:Cx}{pins:List (Addr×Obj)}{σ:St}{H:Hp}{a it S f:Addr}{xs:List V}{kf:Nat->Int}{kwd:List (Str×Value)}{R:Value->Shared->Prop}
structure zw4(X:Cx)(pins:List (Addr×Obj))(σ:St)(H:Hp)(a it S:Addr)(xs:List V)(kf:Nat->Int)(j i:Nat)(H1:Hp)(s:Shared):Prop where
 I:Inv X pins σ H1 s
 sm:Same H H1
 st:s.heap.IsListIter it a j
 f1:FpOk X pins H1 it
 f2:FpOk X pins H1 S
 ne:it≠S
 best:∃vb tb c x,s.heap.get? S=some (seqObj "list" #[vb,.int (kf i) tb] c)/\xs[i]?=some x/\RelV x vb
 lt:i<j
 mx:∀j',j' < j->kf i<=kf j'/\(j' < i->kf i<kf j')
end
section
variable {X:Cx}{pins:List (Addr×Obj)}{σ:St}{H:Hp}{a f:Addr}{xs:List V}{kf:Nat->Int}{R:Value->Shared->Prop}{s:Shared}
end
def zdf(q:Str)(scope:Scope)(L f:Addr)(cd:Value)(clos:List (Str×Addr)):Env:=newEnv scope L mainGlobals clos (q ++ ".<locals>.") (some f) cd none builtinsNs
def zlt(P:Program)(w:World)(K:PySem.W.Frag)(mg:Str->Option Value)(base:Heap)(N:List Str)(q:Str)(scope:Scope)(f:Addr)(cd:Value)(clos:List (Str×Addr))(A:Around)(outer:List Env)(s:Shared)(H:Hp)(E:XK):Cx where
 prog:=P
 w:=w
 K:=K
 mg:=mg
 base:=base
 A:=A.deeper (zdf q scope s.heap.objs.size f cd clos)
 N:=N
 s₀:=s
 H₀:=H
 env:=zdf q scope s.heap.objs.size f cd clos
 outer:=outer
 stack:=zdf q scope s.heap.objs.size f cd clos::outer
 ex:=[]
 calm:=true
 fn:=λ_=>false
 pn:=[]
 xe:=λe s'=>wpAny (model P w) (A.deeper (zdf q scope s.heap.objs.size f cd clos)) (leaving (zdf q scope s.heap.objs.size f cd clos) e) (λ_ s''=>CX0 outer H s E e s'') (λe' s''=>CX0 outer H s E e' s'') s'
structure za9(y n:Str)(sc:Scope):Prop where
 kind:sc.kind=.function
 co:sc.isCoroutine=false
 gen:sc.isGenerator=false
 ne:y≠n
 loc:sc.names.lookup y=some .local
 fre:sc.names.lookup n=some .free
 only:∀x∈sc.names,x.2 ≠ .cell/\(x.2=.free->x.1=n)
theorem ziz{P:Program}{w:World}{K:PySem.W.Frag}{mg:Str->Option Value}{base:Heap}{y n q:Str}{scope:Scope}{f c:Addr}{cd:Value}{A:Around}{outer:List Env}{s:Shared}{h':Heap}{tk:Nat}{H:Hp}{E:XK}{u un:Value}{v vn:V}
  (S:za9 y n scope) (hd:A.handled=none) (e0:Env0 P w K mg base A outer s H) (r:RelV v u) (rn:RelV vn un) (hc:s.heap.IsCell c (some un)) (fc:H c=none)
  (hns:h'.Ns s.heap.objs.size (λx=>[(y,u)].reverse.lookup x)) (hk:∀b o,s.heap.get? b=some o->h'.get? b=some o) :
  Inv (zlt P w K mg base [y,n] q scope f cd [(n,c)] A outer s H E) [] [some v,some vn] H { s with heap:=h',toks:=tk }:=by
 have noA:∀b:Addr,b∉(zlt P w K mg base [y,n] q scope f cd [(n,c)] A outer s H E).ex:=λb z=>absurd (show b∈([]:List Addr) from z) (by simp);have look:∀x c',([(n,c)]:List (Str×Addr)).lookup x=some c'->x=n/\c'=c:=λx c' h=>by
  rw[List.lookup_cons]at h
  cases e:(x == n) with
  |true=>rw[e]at h;exact⟨eq_of_beq e,(Option.some.inj h).symm⟩
  |false=>rw[e]at h;cases h
 have hcell:h'.IsCell c (some un):=by obtain⟨o,ho,hd⟩:=hc;exact⟨o,hk _ _ ho,hd⟩
 refine⟨⟨e0.mod,S.kind,rfl,rfl,Nat.le_refl _,λx z c' h1 h2=>?_,λx hx=>?_,λx c' hf h=>(by cases hf),λ_=>hd,Around.frames_deeper e0.frames,.inr ⟨rfl,rfl⟩,λb z=>absurd z (noA b),e0.bs,e0.bsz,λb _ _=>noA b,λb z=>absurd z (noA b),e0.funs,e0.frf⟩,
  rfl,e0.bare,Un.kept hk,⟨_,hns,λi x v' h1 h2 h3=>?_⟩,λx c' h=>?_,e0.hok.fresh (Nat.le_refl _),λx c' h=>?_,λp hp=>absurd (show p∈([]:List (Addr×Obj)) from hp) (by simp),e0.hok.kept hk,rfl⟩
 ·exact(look x c' h1).1.trans (look z c' h2).1.symm
 ·have hx:scope.names.lookup x=some .cell\/scope.names.lookup x=some .free:=hx;rcases hx with hx|hx
  ·exact absurd rfl (S.only _ (PySem.mem_of_lookup hx)).1
  ·have:=(S.only _ (PySem.mem_of_lookup hx)).2 rfl;have e:x=n:=this;exact⟨c,by show List.lookup x [(n,c)]=some c;rw[e];simp⟩
 ·match i,h1,h2 with
  |0,h1,h2=>
   cases h1
   cases h2;exact⟨u,r,.inl ⟨S.loc,by simp⟩⟩
  |1,h1,h2=>
   cases h1
   cases h2;exact⟨un,rn,.inr ⟨.inr S.fre,c,by show List.lookup n [(n,c)]=some c;simp,hcell⟩⟩
  |i+2,h1,h2=>cases h2
 ·rw[(look x c' h).2];exact⟨_,hcell⟩
 ·rw[(look x c' h).2];exact fc
theorem zoi{P:Program}{w:World}{K:PySem.W.Frag}{mg:Str->Option Value}{base:Heap}{k:Nat}{f c' c:Addr}{q y n:Str}{params:Arguments}{body:Expr}{scope:Scope}{pm ctv:Value}{A:Around}{outer:List Env}{s:Shared}{H:Hp}
  {u un:Value}{v vn:V}{Q:VK}{E:XK}{t:TE} (hr:Room (k+1) A) (e0:Env0 P w K mg base A outer s H) (lk:s.heap.get? f=some (PySem.W.kla_obj "<lambda>" q params body scope [(n,c)] pm c' ctv)) (hcd:s.heap.CodeRec (.ref c') q) (S:za9 y n scope)
  (hb:bindArgs (PySem.W.kla_fn "<lambda>" q params body scope [(n,c)] pm (.ref c') ctv) ⟨[u],[]⟩=pure [(y,u)]) (r:RelV v u) (rn:RelV vn un) (hc:s.heap.IsCell c (some un)) (fc:H c=none)
  (ht:PE (zlt P w K mg base [y,n] q scope f (.ref c') [(n,c)] A outer s H E).nox body t) (hq:t [some v,some vn] H Q):codeAny (model P w) A (.call (.ref f) ⟨[u],[]⟩) (CR CX0 outer P w H s Q E) s:=by
 have lim:s.heap.NoLimit:=e0.mod.nolimit.keeps λb o e=>(e0.bs b o e).1;refine PySem.W.kla_callFunE hr.depth lk rfl S.co S.gen rfl hcd (wpAny_of_eq hb ?_);refine wpAny_newFunctionEnv (λx hx=>(S.only x hx).1) (λx hx=>by rw[List.mem_singleton.mp hx];exact S.loc) (λh' hns hsb=>?_) S.kind;have hk:∀b o,s.heap.get? b=some o->h'.get? b=some o:=λb o e=>(hsb.2 b (Nat.ne_of_lt (Heap.lt_size e))).trans (Heap.get?_push_of_some _ e);refine⟨lim.keeps hk,PySem.W.kla_codeExpr ?_⟩;have I:Inv (zlt P w K mg base [y,n] q scope f (.ref c') [(n,c)] A outer s H E) [] [some v,some vn] H { s with heap:=h',toks:=s.toks + [(y,u)].length }:=ziz S hr.hd e0 r rn hc fc hns hk;exact wpAny_mono (ht.nox [] _ _ H _ I hq) (λu s' ⟨v,H',J,rv,qv⟩=>⟨v,H',J.os,J.bare,J.base,J.hok,rv,qv⟩) λe s' hs=>hs
section
variable {X:Cx}{a body:Expr}{ta:DTF}{tb:DTE}{p pos kp kp2 lp cp:Pos}{k:Nat}{P c:Addr}{q y n:Str}{params:Arguments}{scope:Scope}
end
end L2
namespace SQ
open PySem PyProof.Rows
set_option autoImplicit false
abbrev ipK(p:Int×Str):List Int:=p.1::p.2.cps.toList.map λn:Nat=>(n:Int)
def RefP(h:Heap)(v:Value)(p:Int×Str):Prop:=∃a t u,v=.ref a/\IsTup h a #[.int p.1 t,.str p.2 u]
theorem RefP.keep{h h':Heap}{v:Value}{p:Int×Str}(k:∀b o,h.get? b=some o->h'.get? b=some o)(x:RefP h v p):RefP h' v p:=by
 obtain⟨a,t,u,e,i⟩:=x;exact⟨a,t,u,e,i.keeps k⟩
noncomputable def zp9 (h:Heap) (v:Value):Option (List Int):=@dite _ (∃p,RefP h v p) (Classical.propDecidable _) (λx=>some (ipK x.choose)) (λ_=>none)
@[reducible] noncomputable def zww (h:Heap):KeyKind where
 α:=List Int
 blt a b:=decide (a<b)
 irrefl a:=by simpa using List.lt_irrefl a
 trans a b c h1 h2:=by simp only[decide_eq_true_eq]at *;exact List.lt_trans h1 h2
 negTrans a b c h:=by
  simp only[decide_eq_true_eq]at *
  by_cases c:a<b
  ·exact .inl c
  ·exact .inr (List.lt_of_le_of_lt (List.not_lt.mp c) h)
 total a b h1 h2:=by simp only[decide_eq_false_iff_not]at *;exact List.le_antisymm (List.not_lt.mp h2) (List.not_lt.mp h1)
 keyOf v:=zp9 h v
 dflt:=[]
section
variable {prog:Program}{w:World}{A:Around}{E:Value->Shared->Prop}{s:Shared}
end
end SQ
namespace L2
open PySem PySem.Spec PyProof.Rows SQ
section
variable {X:Cx}
end
end L2
namespace L2
open PySem PySem.Spec PyProof.Rows
section
variable {X:Cx}{o:Expr}{td:TE}{p pos:Pos}
end
section
variable {X:Cx}
end
section
variable {X:Cx}
end
section
variable {P:Program}{w:World}{K:PySem.W.Frag}{mg:Str->Option Value}{base:Heap}{N:List Str}{qual:Str}{scope:Scope}{f:Addr}{cd:Value}{A:Around}{outer:List Env}{s:Shared}{H:Hp}{E:XK}
end
end L2
namespace L2
open PySem PySem.Spec PyProof.Rows SQ
section
variable {X:Cx}{a:Expr}{p pos p2 pos2:Pos}
end
end L2
namespace L2
open PySem PySem.Spec PyProof.Rows
section
variable {X:Cx}{e:Expr}{i:Nat}{te:DTE}{sp:zda}{t:zdb}{pos:Pos}
def zqa:zda:=λwp o wq Q=>∃(xs:List D) (i:Int) (k:Nat) (d:D),wp = []/\wq = [.val (.int i)]/\o=.lst xs/\-(2 ^ 63)<=i/\i<2 ^ 63/\seqIndex? i xs.length=some k/\xs[k]?=some d/\Q d (.lst (xs.eraseIdx k))
def zf0(i:Nat)(te:DTE):zdb:=λσ Q=>match σ[i]? with
 |some (some (.own (.lst _)))=>te σ λd=>Q [] [.val d]
 |_=>False
theorem DOk.popped{K:PySem.W.Frag}{H H₀:Hp}{σD:DSt}{σ:St}{o:O}{xs:List D}(ok:DOk K H₀ H σD σ)(eo:σD[i]?=some (some (.own o)))(eb:o.bare=.lst xs):
  ∃a vs,σ[i]?=some (some (.ref a))/\H a=some (.lst vs)/\Reps K H xs vs/\∀ys ws,Reps K H ys ws->DOk K H₀ (upd H a (.lst ws)) (clr (σD.set i (some (.own (o.with (.lst ys)))))) σ/\Pers H (upd H a (.lst ws)):=by
 obtain⟨v,f,ev,rO,nf,fr,put⟩:=ok.focus eo;have rb:=rO.bare;rw[eb]at rb;obtain⟨a,vs,rfl,rfl,e,r⟩:=rb;refine⟨a,vs,ev,e,r,λys ws rw'=>?_⟩;exact put (upd H a (.lst ws)) (o.with (.lst ys)) [a] (λb u hb hu=>by rw[zn (λz=>hb (by rw[z];exact List.mem_cons_self))];exact hu) nf (λb hb=>.inl hb)
  (rO.with ⟨a,ws,rfl,rfl,zp,rw'.mono (wz e rfl)⟩)
theorem zoj(i:Nat){x:Str}{p1 apos cpos:Pos}(he:DE X e te)(hN:X.N[i]?=some x:=by rfl)(hv:Vis X.env.scope x:=by first|exact Or.inl rfl|exact Or.inr (Or.inl rfl)|exact Or.inr (Or.inr rfl))(hd:(x ==("__debug__" : Str))=false:=by decide)
  (hcd:(x ==("__classdict__" : Str))=false:=by decide)
  (hbase:attributeBase (.Name x p1) "pop" X.env (eval (.Name x p1) X.env)=eval (.Name x p1) X.env:=by rfl)
  (hfew:((backTo cpos (starEach (e :: []) X.env)).all (λx=>!x.1) && (backToKw cpos (keywordEach [] X.env)).all (λx=>x.1.isSome)
   && decide ((e :: []).length+([]:List Keyword).length+(if ([]:List Keyword).isEmpty then 0 else 1)<30))=true:=by rfl)
  (hline:(apos.endLine == cpos.line)=true:=by rfl) (hst:starEach (e :: []) X.env=(false,eval e X.env)::starEach [] X.env:=by rfl) (hplain:(backTo cpos (starEach [] X.env)).any (·.1)=false:=by rfl) :
  PE X (.Call (.Attribute (.Name x p1) "pop" apos) [e] [] cpos) (ziv X.K i zqa (zf0 i te)):=by
 intro pins s σ H Q I zz;obtain⟨H₀,σD,o,QD,ok,eo,q,kq⟩:=zz;have P:=zgp PySem.F.plainAttrs_list PySem.F.slot_list_pop PySem.F.type_list_pop zmr (wc (i:=i) (pos:=p1) hN hv hd hcd) (xz he.pe vf hst) hbase hfew hline hst hplain;unfold zf0 at q;rw[eo]at q
 cases o with
 |lst xs0=>
  obtain⟨a0,vs0,ev0,ea0,_⟩:=ok.ownL eo;refine P pins s σ H Q I ⟨.ref a0,ev0,.inl ⟨rfl,vs0,SqL.of ea0⟩,H₀,σD,_,ok,q,λv H1 d s1 r1 q1=>?_⟩;obtain⟨_,_,xs,ix,k,d',_,ew,eb,h1,h2,hk,hx,qd⟩:=q1
  cases ew
  cases r1;obtain⟨a,vs,ev,ea,r,put⟩:=(ok.after s1).popped eo eb;rw[ev0]at ev
  cases ev;obtain⟨y,ey,ry⟩:=r.get hx;obtain⟨ok2,pr⟩:=put (xs.eraseIdx k) (vs.eraseIdx k) (r.eraseIdx k);exact⟨a0,vs,ix,k,y,rfl,rfl,ea,h1,h2,by rw[<-r.length];exact hk,ey,kq y _ d' _ ok2 (s1.pers.trans pr) (ry.mono pr) qd⟩
 |_=>exact q.elim
end
theorem Reps.of_keys{K:PySem.W.Frag}{H:Hp}{ks:List Key}{vs:List V}(h:Reps K H (ks.map kD) vs):vs=ks.map kV:=by
 induction ks generalizing vs with
 |nil=>cases h;rfl
 |cons k ks ih=>
  cases h with
  |cons r t=>
   rw[List.map_cons,<-ih t]
   cases k with
   |inl n=>cases r;rfl
   |inr n=>cases r;rfl
section
variable {X:Cx}{e f:Expr}{es:List Expr}{te tf:DTE}{tl ta:DTF}{pos pos' p1 p2:Pos}
def zf1(j:Nat)(ta:DTF):DTS:=λDn σ=>ta σ λds=>match ds with
 |[.list xs]=>∃ks:List Key,xs=ks.map kD/\Dn.nx (σ.set j (some (.own (.tk ks))))
 |_=>False
theorem zlu{j:Nat}{y:Str}{np cpos:Pos}(hN:X.N.Nodup)(hj:X.N[j]?=some y)(hx:Loc X.env.scope y)(hg:Gl X "tuple")(hm:X.mg "tuple" = none)(ha:DAv X [e] ta)
  (hs:swapsWith (.Call (.Name "tuple" np) [e] [] cpos) (some (.Name y pos')) pos.line X.env=pure false:=by rfl) (hf:X.fn y=true\/X.env.scope.names.lookup y=some .local:=by first|exact .inl rfl|exact .inr rfl|assumption)
  (he:starEach (e :: []) X.env=(false,eval e X.env)::starEach [] X.env:=by rfl) :
  DS X (.Assign [.Name y pos'] (.Call (.Name "tuple" np) [e] [] cpos) pos) (zf1 j ta) :=
 DS.of (zbh hN hj hx (zeg j8 hg hm boot_tuple ha.pa (he:=he)) hs hf) λσ H H₀ σD Dn ok q=>⟨H₀,σD,_,ok,q,λvs H1 ds s1 r1 q1=>by
  split at q1
  ·next xs=>
   obtain⟨ks,rfl,qn⟩:=q1;obtain⟨v,rfl,r⟩:=r1.one;obtain⟨a,ws,rfl,h,r⟩:=r.list.sq;have e1:=Reps.of_keys r;subst e1;exact⟨a,_,rfl,.inl ⟨h,λl hl=>⟨_,DOk.setF ok (s1.trans (ya hl _)) (o:=.tk ks) (f:=[]) (λ_ z=>nomatch z) List.nodup_nil ⟨l,rfl,rfl,zp⟩ j,(s1.trans (ya hl _)).pers,qn⟩⟩⟩
  ·exact q1.elim⟩
def zi0(i:Nat):DTS:=λDn σ=>Dn.nx (σ.set i (some (.own (.dcT []))))
theorem zok{i:Nat}{x:Str}(hN:X.N.Nodup)(hi:X.N[i]?=some x)(hx:Loc X.env.scope x)(hs:swapsWith (.Dict [] [] p2) (some (.Name x pos')) pos.line X.env=pure false:=by rfl)(hf:X.fn x=true\/X.env.scope.names.lookup x=some .local:=by first|exact .inl rfl|exact .inr rfl|assumption):
  DS X (.Assign [.Name x pos'] (.Dict [] [] p2) pos) (zi0 i) :=
 DS.of (zbh hN hi hx zoa hs hf) λσ H H₀ σD Dn ok q=>λp hp=>⟨_,DOk.setF ok (ya hp _) (o:=.dcT []) (f:=[p]) (λb hb=>by rw[List.mem_singleton.mp hb];exact hp) (List.nodup_cons.mpr ⟨λz=>(nomatch z),List.nodup_nil⟩) ⟨p,[],rfl,rfl,zp,RepKV.nil'⟩ i,(ya hp _).pers,q⟩
theorem DOk.tk{K:PySem.W.Frag}{H H₀:Hp}{σD:DSt}{σ:St}{j:Nat}{ks:List Key}(ok:DOk K H₀ H σD σ)(e:σD[j]?=some (some (.own (.tk ks)))):∃b,σ[j]?=some (some (.ref b))/\H b=some (.tup (ks.map kV)):=by
 obtain⟨v,f,ev,rO,_⟩:=ok.focus e;obtain⟨b,rfl,rfl,h⟩:=rO;exact⟨b,ev,h⟩
theorem DOk.dcT{K:PySem.W.Frag}{H H₀:Hp}{σD:DSt}{σ:St}{i:Nat}{xs:List (List Key×D)}(ok:DOk K H₀ H σD σ)(e:σD[i]?=some (some (.own (.dcT xs)))):
  ∃a vs,σ[i]?=some (some (.ref a))/\H a=some (.dT vs)/\RepKV K H xs vs/\∀ys ws,RepKV K H ys ws->DOk K H₀ (upd H a (.dT ws)) (clr (σD.set i (some (.own (.dcT ys))))) σ/\Pers H (upd H a (.dT ws)):=by
 obtain⟨v,f,ev,rO,nf,fr,put⟩:=ok.focus e;obtain⟨a,vs,rfl,rfl,ea,r⟩:=rO;refine⟨a,vs,ev,ea,r,λys ws r2=>put (upd H a (.dT ws)) (.dcT ys) [a] (λb u hb hu=>by rw[zn (λz=>hb (by rw[z];exact List.mem_cons_self))];exact hu) nf (λb hb=>.inl hb) ⟨a,ws,rfl,rfl,zp,r2.1,r2.2.mono (wz ea rfl)⟩⟩
theorem zol:∀{ks:List (List Key×D)}{vs:List (List Key×V)} (k:List Key),ks.map (·.1)=vs.map (·.1)->(j6 vs k).isSome=(zas ks k).isSome:=by
 intro ks
 induction ks with
 |nil=>
  intro vs k h
  cases vs with
  |nil=>rfl
  |cons q vs=>cases h
 |cons p ks ih=>
  intro vs k h
  cases vs with
  |nil=>cases h
  |cons q vs=>
   rw[List.map_cons,List.map_cons,List.cons.injEq]at h;have ih:=ih k h.2;unfold j6 zas at ih ⊢;rw[List.find?_cons,List.find?_cons,h.1]
   by_cases c:q.1=k
   ·rw[decide_eq_true c];rfl
   ·rw[decide_eq_false c];exact ih
def zke(i j:Nat):DTE:=λσ Q=>match σ[i]?,σ[j]? with
 |some (some (.own (.dcT xs))),some (some (.own (.tk k)))=>∃d,zas xs k=some d/\Q d
 |_,_=>False
theorem zqb(i j:Nat){x y:Str}{m:Nat}(hr:Room m X.A)(hN:X.N[i]?=some x:=by rfl)(hM:X.N[j]?=some y:=by rfl)(hvis:Vis X.env.scope x:=by first|exact Or.inl rfl|exact Or.inr (Or.inl rfl)|exact Or.inr (Or.inr rfl))(hvy:Vis X.env.scope y:=by first|exact Or.inl rfl|exact Or.inr (Or.inl rfl)|exact Or.inr (Or.inr rfl))(hd:(x ==("__debug__" : Str))=false:=by decide)(hcd:(x ==("__classdict__" : Str))=false:=by decide)
  (hdy:(y ==("__debug__" : Str))=false:=by decide) (hcy:(y ==("__classdict__" : Str))=false:=by decide) (hs:zti (.Name y p2):=by exact λ_ _=>rfl) :
  DE X (.Subscript (.Name x p1) (.Name y p2) pos) (zke i j) :=
 DE.of (zp4 (by have:=hr.un;omega) (wc (i:=i) hN hvis hd hcd) (wc (i:=j) hM hvy hdy hcy) hs) λσ H H₀ σD QD ok q=>by
  unfold zke at q
  split at q
  ·next xs k e1 e2=>
   obtain⟨a,vs,ea,ha,r,_⟩:=ok.dcT e1;obtain⟨b,eb,hb⟩:=ok.tk e2;obtain⟨d,hg,qd⟩:=q;obtain⟨v,hv,rv⟩:=r.get hg;exact⟨.ref a,ea,.ref b,eb,a,v,rfl,hv ▸ DGet.t ha hb,d,Same.refl _,rv,qd⟩
  ·exact q.elim
def zqc(i j:Nat)(f:Bool->Bool):DTE:=λσ Q=>match σ[i]?,σ[j]? with
 |some (some (.own (.dcT xs))),some (some (.own (.tk k)))=>Q (.bool (f (zas xs k).isSome))
 |_,_=>False
theorem zlv(i j:Nat){x y:Str}{m:Nat}(hr:Room m X.A)(hN:X.N[i]?=some x:=by rfl)(hM:X.N[j]?=some y:=by rfl)(hvis:Vis X.env.scope x:=by first|exact Or.inl rfl|exact Or.inr (Or.inl rfl)|exact Or.inr (Or.inr rfl))(hvy:Vis X.env.scope y:=by first|exact Or.inl rfl|exact Or.inr (Or.inl rfl)|exact Or.inr (Or.inr rfl))(hd:(x ==("__debug__" : Str))=false:=by decide)(hcd:(x ==("__classdict__" : Str))=false:=by decide)
  (hdy:(y ==("__debug__" : Str))=false:=by decide) (hcy:(y ==("__classdict__" : Str))=false:=by decide) (h1:behindInMarks .NotIn (.Name x p1)=false:=by rfl):DT X (.Compare (.Name y p2) [.NotIn] [.Name x p1] pos) (dTB (zqc i j (λb=>!b))) :=
 DT.of (zrh (zlj (by have:=hr.un;omega) (wc (i:=j) hM hvy hdy hcy) (wc (i:=i) hN hvis hd hcd)) h1) λσ H H₀ σD QD ok q=>by
  unfold dTB zqc at q
  split at q
  ·next xs k e1 e2=>
   obtain⟨a,vs,ea,ha,r,_⟩:=ok.dcT e1;obtain⟨b,eb,hb⟩:=ok.tk e2;refine⟨.ref b,eb,.ref a,ea,a,j6 vs k,rfl,DGet.t ha hb,_,rfl,Same.refl _,?_⟩;rw[zol k r.1];exact q
  ·exact q.elim
def zom(i j:Nat)(tv:DTE):DTS:=λDn σ=>tv σ λd=>match σ[i]?,σ[j]? with
 |some (some (.own (.dcT xs))),some (some (.own (.tk k)))=>xs.length<sizeLine/\Dn.nx (clr (σ.set i (some (.own (.dcT (zd0 xs k d))))))
 |_,_=>False
theorem zqd(i j:Nat){x y:Str}{m:Nat}{spos:Pos}(hr:Room m X.A)(hv:DE X e te)(hN:X.N[i]?=some x:=by rfl)(hM:X.N[j]?=some y:=by rfl)(hvis:Vis X.env.scope x:=by first|exact Or.inl rfl|exact Or.inr (Or.inl rfl)|exact Or.inr (Or.inr rfl))(hvy:Vis X.env.scope y:=by first|exact Or.inl rfl|exact Or.inr (Or.inl rfl)|exact Or.inr (Or.inr rfl))(hd:(x ==("__debug__" : Str))=false:=by decide)(hcd:(x ==("__classdict__" : Str))=false:=by decide)
  (hdy:(y ==("__debug__" : Str))=false:=by decide) (hcy:(y ==("__classdict__" : Str))=false:=by decide)
  (hs:swapsWith e (some (.Subscript (.Name x p1) (.Name y p2) pos')) spos.line X.env=pure false:=by rfl) :
  DS X (.Assign [.Subscript (.Name x p1) (.Name y p2) pos'] e spos) (zom i j te) :=
 DS.of (zp5 (by have:=hr.un;omega) (wc (i:=i) hN hvis hd hcd) (wc (i:=j) hM hvy hdy hcy) hv.pe hs) λσ H H₀ σD Dn ok q=>⟨H₀,σD,_,ok,q,λv H1 d s1 r1 q1=>by
  split at q1
  ·next xs k e1 e2=>
   obtain⟨a,vs,ea,ha,r,put⟩:=(ok.after s1).dcT e1;obtain⟨b,eb,hb⟩:=(ok.after s1).tk e2;obtain⟨ok2,pr⟩:=put (zd0 xs k d) (zar vs k v) (r.put r1);exact⟨.ref a,ea,.ref b,eb,a,_,rfl,DPut.t ha hb (by rw[<-r.len];exact q1.1),_,ok2,s1.pers.trans pr,q1.2⟩
  ·exact q1.elim⟩
end
end L2
namespace PySem
open Sem (wp)
def VAt(h:Heap)(a:Addr)(us:List Value)(ep:Nat):Prop:=∃o es,h.get? a=some o/\o.ExactDict/\o.data=.dict es ep/\es.toList.map (·.val)=us
theorem VAt.extBut{h h':Heap}{a b us ep}(x:VAt h a us ep)(hs:Heap.ExtBut b h h')(hab:a≠b):VAt h' a us ep:=let ⟨o,es,ho,r⟩:=x;⟨o,es,hs a o hab ho,r⟩
theorem VAt.at{h h':Heap}{a us ep}(x:VAt h a us ep)(e:∀o,h.get? a=some o->h'.get? a=some o):VAt h' a us ep:=let ⟨o,es,ho,r⟩:=x;⟨o,es,e _ ho,r⟩
theorem VAt.push{h:Heap}{a us ep}(x:VAt h a us ep)(o:Obj):VAt (h.push o) a us ep:=let ⟨o',es,ho,r⟩:=x;⟨o',es,Heap.get?_push_of_some o ho,r⟩
theorem VAt.lt_size{h:Heap}{a us ep}(x:VAt h a us ep):a<h.objs.size:=let ⟨_,_,ho,_⟩:=x;Heap.lt_size ho
theorem VAt.typeIs{s:Shared}{a us ep}(x:VAt s.heap a us ep):s.TypeIs (.ref a) "dict" := let ⟨o,_,ho,hc,_⟩:=x;⟨o,ho,hc.1⟩
section
variable {prog:Program}{w:World}{A:Around}{E:Value->Shared->Prop}{s:Shared}
theorem zat(d:Addr)(hd:(d == sysModules)=false):
  MeetsIn prog w (Builtin.«dict.values» ⟨[.ref d],[]⟩) (λ_ R s=>(∃kvs ep,VAt s.heap d kvs ep) /\
   R (.ok (.ret (.ref s.heap.objs.size))) { s with heap:=s.heap.push { cls:=.type "dict_values",data:=.fields #[.ref d] } }) :=
 .of_wp λA R s ⟨⟨kvs,ep,hm⟩,h⟩=>by
  refine wpAny_bind ?_;unfold Builtin.Dict.noArgs;refine wpAny_bind (wpAny_notOrdered_dict hm.typeIs ?_);show wpAny _ _ (pure d) _ _ s;refine wpAny_pure ?_;show wpAny _ _ (Builtin.Dict.showsAll d >>= _) _ _ s;unfold Builtin.Dict.showsAll;rw[if_neg (by rw[hd];exact Bool.false_ne_true)];refine wpAny_bind (wpAny_pure ?_);exact wpAny_bind (wpAny_newObj_type (wpAny_pure ⟨_,rfl,h⟩))
theorem jr{v d:Addr}{kvs:List Value}{ep:Nat}{Q:Value->Shared->Prop}(hv:s.heap.IsValuesView v d)(hm:VAt s.heap d kvs ep)
  (hQ:Q (.ref s.heap.objs.size) { s with heap:=s.heap.push { cls:=.type "dict_valueiterator",data:=.fields #[.ref d,.int 0 0,.int kvs.length 0,.int ep 0] } }) :
  wpAny (model prog w) A (pyIter (.ref v)) Q E s:=by
 obtain⟨ov,hov,hcv,hdv⟩:=id hv;obtain⟨o,es,ho,hc,hdat,hp⟩:=id hm;refine wpAny_pyIter_slot hv.typeIs F.slot_dict_values_iter (wpAny_call_entry F.slot_dict_values_iter hv.typeIs F.entry_dict_values_iter ?_ (F.args_dict_values_iter_1 _));unfold Builtin.«dict_values.__iter__»;refine wpAny_bind (wpAny_pure ?_);refine wpAny_bind ?_;unfold Builtin.Dict_items.dictOf;refine wpAny_bind (wpAny_field hov hdv (x:=.ref d) rfl (wpAny_pure ?_));refine wpAny_bind ?_;unfold Builtin.Dict_items.newIterator;refine wpAny_bind (wpAny_dictEntries ho hdat ?_);refine wpAny_bind (wpAny_dictEpoch ho hdat ?_);have hsz:es.size=kvs.length:=by rw[<-hp];simp
 have hown:Builtin.Dict_items.ownsTuple "dict_valueiterator" = false:=by decide
 simp only[hown,Bool.false_eq_true,if_false];refine wpAny_newObj_type (wpAny_pure ⟨_,rfl, "dict_valueiterator",_,⟨_,Heap.get?_push_size _ rfl,rfl⟩,F.slot_dict_valueiterator_next.lookup,?_⟩);simpa[rawInt,hsz]using hQ
theorem qj{it d:Addr}{i ep:Nat}{kvs:List Value}{v:Value}{Q:Option Value->Shared->Prop}(hit:s.heap.IsValIter it d i kvs.length ep)
  (hm:VAt s.heap d kvs ep) (hx:kvs[i]?=some v)
  (hQ:∀h',h'.IsValIter it d (i+1) kvs.length ep->Heap.SameBut it s.heap h'->Q (some v) { s with heap:=h' }) :
  wpAny (model prog w) A (pyNext (.ref it)) Q E s:=by
 obtain⟨o,ho,hc,hd⟩:=id hit;obtain⟨od,es,hod,hcd,hdd,hp⟩:=id hm;unfold pyNext;refine wpAny_bind (wpAny_attempt (wpAny_callSpecial?_slot (name:=Str.ofString "__next__") hit.typeIs F.slot_dict_valueiterator_next
  (wpAny_call_entry F.slot_dict_valueiterator_next hit.typeIs F.entry_dict_valueiterator_next ?_ (F.args_dict_valueiterator_next_1 _))))
 refine wpAny_bind (wpAny_pure ?_);refine wpAny_bind ?_;refine wpAny_bind ?_
 first|refine wpAny_bind (wpAny_typeNameOfWhole_valiter hit.typeIs (wpAny_pure ?_))|refine wpAny_bind (wpAny_typeNameOf_valiter hit.typeIs (wpAny_pure ?_))
 refine wpAny_bind (wpAny_fieldsOf ho hd ?_);have hown:Builtin.Dict_items.ownsTuple "dict_valueiterator" = false:=by decide
 simp only[hown,Bool.false_eq_true,if_false];show wpAny _ _ (if (Value.ref d == Value.none)=true then _ else _) _ _ s;rw[if_neg (show ¬ ((Value.ref d == Value.none)=true) from Bool.false_ne_true)];refine wpAny_bind (wpAny_pure ?_);refine wpAny_bind (wpAny_dictEntries hod hdd ?_);have hsz:es.size=kvs.length:=by rw[<-hp];simp
 rw[if_neg (by rw[hsz];simp)];refine wpAny_bind (wpAny_pure ?_);refine wpAny_bind (wpAny_dictEpoch hod hdd ?_);rw[if_neg (by simp)];refine wpAny_pure ?_;have hlt:i<kvs.length:=by
  rcases Nat.lt_or_ge i kvs.length with h|h
  ·exact h
  ·simp[List.getElem?_eq_none h]at hx
 have hlt':i<es.size:=by rw[hsz];exact hlt
 have hval:es[i].val=v:=by
  have h1:=hx;rw[<-hp,List.getElem?_map]at h1;simpa[hlt']using h1
 simp only[show ¬ ((i:Int)<0) from by omega,if_false,Int.toNat_natCast,Array.getElem?_eq_getElem hlt'];refine wpAny_bind ?_
 first|refine wpAny_bind (wpAny_typeNameOfWhole_valiter hit.typeIs (wpAny_pure ?_))|refine wpAny_bind (wpAny_typeNameOf_valiter hit.typeIs (wpAny_pure ?_))
 refine wpAny_bind (wpAny_isOneOf_valiter hit.typeIs ?_);show wpAny _ _ (setField (.ref it) 1 (rawInt ((i:Int)+1)) >>= _) _ _ s;refine wpAny_bind (wpAny_setField ho hd (by simp) ?_);have hit':(s.heap.update it (Obj.mapFields (·.setIfInBounds 1 (rawInt ((i:Int)+1))))).IsValIter it d (i+1) kvs.length ep :=
  ⟨_,Heap.get?_update_self _ ho (Obj.isFreed_of_fields (Obj.data_mapFields hd _)),(Obj.cls_mapFields ..).trans hc,by rw[Obj.data_mapFields hd];simp[rawInt]⟩
 refine wpAny_bind (wpAny_holding ?_);refine wpAny_bind (wpAny_isOneOf_valiter (s:={ s with heap:=s.heap.update it (Obj.mapFields (·.setIfInBounds 1 (rawInt ((i:Int)+1)))) }) hit'.typeIs ?_);refine wpAny_bind (wpAny_isOneOf_valiter (s:={ s with heap:=s.heap.update it (Obj.mapFields (·.setIfInBounds 1 (rawInt ((i:Int)+1)))) }) hit'.typeIs ?_);show wpAny _ _ (pure es[i].val) _ _ _;exact wpAny_pure (wpAny_pure ⟨_,rfl,wpAny_pure (hval ▸ hQ _ hit' (Heap.SameBut.update ..))⟩)
theorem qz{it d:Addr}{i ep:Nat}{kvs:List Value}{Q:Option Value->Shared->Prop}(hh:A.handled=none)(hit:s.heap.IsValIter it d i kvs.length ep)
  (hm:VAt s.heap d kvs ep) (hx:kvs[i]?=none)
  (hQ:∀h',Heap.ExtBut it s.heap h'->Q none { s with heap:=h' }):wpAny (model prog w) A (pyNext (.ref it)) Q E s:=by
 obtain⟨o,ho,hc,hd⟩:=id hit;obtain⟨od,es,hod,hcd,hdd,hp⟩:=id hm;unfold pyNext;refine wpAny_bind (wpAny_attempt (wpAny_callSpecial?_slot (name:=Str.ofString "__next__") hit.typeIs F.slot_dict_valueiterator_next
  (wpAny_call_entry F.slot_dict_valueiterator_next hit.typeIs F.entry_dict_valueiterator_next ?_ (F.args_dict_valueiterator_next_1 _))))
 refine wpAny_bind (wpAny_pure ?_);refine wpAny_bind ?_;refine wpAny_bind ?_
 first|refine wpAny_bind (wpAny_typeNameOfWhole_valiter hit.typeIs (wpAny_pure ?_))|refine wpAny_bind (wpAny_typeNameOf_valiter hit.typeIs (wpAny_pure ?_))
 refine wpAny_bind (wpAny_fieldsOf ho hd ?_);have hown:Builtin.Dict_items.ownsTuple "dict_valueiterator" = false:=by decide
 simp only[hown,Bool.false_eq_true,if_false];show wpAny _ _ (if (Value.ref d == Value.none)=true then _ else _) _ _ s;rw[if_neg (show ¬ ((Value.ref d == Value.none)=true) from Bool.false_ne_true)];refine wpAny_bind (wpAny_pure ?_);refine wpAny_bind (wpAny_dictEntries hod hdd ?_);have hsz:es.size=kvs.length:=by rw[<-hp];simp
 rw[if_neg (by rw[hsz];simp)];refine wpAny_bind (wpAny_pure ?_);refine wpAny_bind (wpAny_dictEpoch hod hdd ?_);rw[if_neg (by simp)];refine wpAny_pure ?_;have hge:es.size<=i:=by rw[hsz];simpa using hx
 simp only[show ¬ ((i:Int)<0) from by omega,if_false,Int.toNat_natCast,Array.getElem?_eq_none hge];refine wpAny_bind ?_
 first|refine wpAny_bind (wpAny_typeNameOfWhole_valiter hit.typeIs (wpAny_pure ?_))|refine wpAny_bind (wpAny_typeNameOf_valiter hit.typeIs (wpAny_pure ?_))
 show wpAny _ _ (setField (.ref it) 0 .none >>= _) _ _ s;refine wpAny_bind (wpAny_setField ho hd (by simp) ?_);show wpAny _ _ (newExc (.type "StopIteration") [] >>= _) _ _ _;refine wpAny_bind ?_;simp only[newExc,newTuple];refine wpAny_bind (wpAny_newObj_type ?_ (by size_fits));refine wpAny_bind (m:=firstArgMember _ _) (wpAny_of_eq (a:=Value.none) (by first|rfl |(simp only[firstArgMember];rfl)) ?_);refine wpAny_newObj_type ?_ (by size_fits);simp only[raiseNew];refine wpAny_bind (wpAny_handled ?_);rw[show A.in1.handled=none from hh];refine wpAny_bind (wpAny_pure (wpAny_throw ?_));refine wpAny_bind (wpAny_isInstance (T := "StopIteration") (b:=true) ⟨_,Heap.get?_push_size _ rfl,rfl⟩ isSubtype_stop ?_);exact wpAny_pure (hQ _ (((Heap.SameBut.update ..).extBut.push _).push _))
theorem zba(hh:A.handled=none)(I d:Addr)(hne:d≠I)(kvs:List Value)(ep:Nat):
  Walks prog w A I [I,d] [I] kvs.length (λi v=>kvs[i]?=some v) (λi h=>h.IsValIter I d i kvs.length ep/\VAt h d kvs ep) where
 sub:=λb hb=>by simp at hb;simp[hb]
 frame:=λ_ _ _ st hk=>⟨st.1.at λo e=>hk I (by simp) o e,st.2.at λo e=>hk d (by simp) o e⟩
 item:=λi s Q E hi st hQ=>by
  obtain⟨x,hx⟩:∃p,kvs[i]?=some p:=⟨kvs[i],by simp[hi]⟩
  refine qj st.1 st.2 hx λh' hit' hs'=>?_;exact hQ x h' s.toks hx ⟨hit',st.2.extBut hs'.extBut hne⟩ λb o hb e=>hs'.extBut b o (λh=>hb (by simp[h])) e
 done:=λs Q E st hQ=>qz hh st.1 st.2 (by simp) λh' he'=>hQ h' s.toks λb o hb e=>he' b o (λh=>hb (by simp[h])) e
 self:=λ_ _ _ _ st hQ=>wpAny_pyIter_valiter st.1 hQ
end
namespace W
section
variable {prog:Program}{w:World}{d r:Addr}{kvs:List Value}{ep:Nat}
theorem kdl_valuesT:KdlSrc prog w "dict_values" r d kvs.length (λi v=>kvs[i]?=some v) (λh=>h.IsValuesView r d/\VAt h d kvs ep) where
 type:=λ_ hm=>hm.1.typeIs
 there:=λ_ hm=>⟨let ⟨_,ho,_⟩:=hm.1;Heap.lt_size ho,hm.2.lt_size⟩
 keep:=λ_ _ hm hk=>⟨let ⟨o,ho,x⟩:=hm.1;⟨o,hk r (.inl rfl) o ho,x⟩,hm.2.at λo e=>hk d (.inr rfl) o e⟩
 notList:=by decide
 notTuple:=by decide
 hint:=λ_ _ _ _ hm hq=>kdl_hint_values hm.1.typeIs hq
 iter:=λ_ _ hh hm=>⟨_,_,(λ_ _ hq=>jr hm.1 hm.2 hq),zba hh _ d (Nat.ne_of_lt hm.2.lt_size) kvs ep,⟨⟨_,Heap.get?_push_size _ rfl,rfl,rfl⟩,hm.2.push _⟩⟩
end
end W
end PySem
namespace L2
open PySem PySem.Spec PyProof.Rows
theorem KT.snds{H:Hp}{vs:List (List Key×V)}{ws:List (List Key×Addr×Value)}(h:KT H vs ws):Vals (vs.map (·.2)) (ws.map (·.2.2)):=by
 induction h with
 |nil=>exact .nil
 |cons r t ih=>exact .cons r.2.2 ih
section
variable {X:Cx}{o:Expr}{td:TE}{p pos apos cpos:Pos}
def zwt(td:TE):TE:=λσ H Q=>td σ H λx H1=>∃a vs,x=.ref a/\Rd H1 a (.dT vs)/\∀d,H1 d=none->Q (.ref d) (upd H1 d (.lst (vs.map (·.2))))
theorem zlw(hgl:Gl X "list")(hml:X.mg "list" = none)(hc:X.calm=true)(ho:PE X o td)
  (hbase:attributeBase o "values" X.env (eval o X.env)=eval o X.env:=by rfl) (hline:(apos.endLine == cpos.line)=true:=by rfl)
  (hs2:starEach [.Call (.Attribute o "values" apos) [] [] cpos] X.env = [(false,eval (.Call (.Attribute o "values" apos) [] [] cpos) X.env)]:=by rfl) :
  PE X (.Call (.Name "list" p) [.Call (.Attribute o "values" apos) [] [] cpos] [] pos) (zwt td):=by
 intro pins s σ H Q I h;refine Call_ (v6 I hgl hml PyProof.Rows.boot_list (PyProof.Rows.callWith_type1 ?_ hs2 rfl));rw[hs2];show wpAny _ _ (spliced ((false,eval (.Call (.Attribute o "values" apos) [] [] cpos) X.env)::backTo pos [])) _ _ s;refine Calls.spliced_cons ?_;refine wpAny_Call_method0_late hbase hline (thn (ho pins s σ H _ I h) λu s1 ⟨x,H1,I1,rx,a,vs,ex,e,q1⟩=>?_);subst ex;obtain rfl:u=Value.ref a:=rx;obtain⟨z,hd,ws,rel,o',es,ep,h1,h2,h3,h4,_⟩:=ze1 I1.hok e;have dd:VAt s1.heap a (ws.map (·.2.2)) ep:=⟨o',es,h1,h2,h3,by rw[h4,List.map_map];rfl⟩
 obtain⟨t1,t2,_⟩:=ztk I1 (.inr ⟨_,e⟩);refine⟨"dict", "dict.values",PySem.F.plainAttrs_dict,PySem.F.slot_dict_values,PySem.F.type_dict_values,t1,t2,Calls.callWith_builtin rfl (PySem.evalArgs_none ?_)⟩;refine call_meetsIn PySem.F.slot_dict_values dd.typeIs PySem.F.entry_dict_values (PySem.F.args_dict_values_1 _) (zat a hd) ⟨⟨_,_,dd⟩,?_⟩;refine Calls.spliced_nil ?_;have hl:vs.length=(ws.map (·.2.2)).length:=by
  have:=rel.snds.length;simpa using this
 refine PySem.W.kdl_call (PySem.W.kdl_valuesT (d:=a) (r:=s1.heap.objs.size) (kvs:=ws.map (·.2.2)) (ep:=ep)) (I.ok.hd hc) ⟨⟨_,Heap.get?_push_size _ rfl,rfl,rfl⟩,dd.push _⟩ (by rw[<-hl];exact z) λh' tk acc' c' hk hS hacc=>?_;have sz:(s1.heap.push { cls:=.type "dict_values",data:=.fields #[.ref a] }).objs.size=s1.heap.objs.size+1:=Heap.size_push ..;have hf:H1 (s1.heap.push { cls:=.type "dict_values",data:=.fields #[.ref a] }).objs.size=none:=I1.hok.fresh (by rw[sz];omega);have ev:acc'.toList=ws.map (·.2.2):=by
  refine List.ext_getElem? λj=>?_;have l1:=hacc.1
  by_cases c:j<acc'.size
  ·have e2:acc'.toList[j]?=some acc'[j]:=by simp[c]
   rw[e2];exact(hacc.2 j acc'[j] (by simp[c])).symm
  ·rw[List.getElem?_eq_none (by rw[Array.length_toList];omega),List.getElem?_eq_none (by omega)]
 refine⟨.ref _,upd H1 _ (.lst (vs.map (·.2))),I1.laid (t':=tk) (λb u e=>hk _ _ (Heap.get?_push_of_some _ e)) (by rw[sz];omega) ?_,rfl,q1 _ hf⟩;exact⟨by rw[List.length_map];exact z,acc'.toList,c',by rw[ev];exact rel.snds,by simpa using hS⟩
def zck(i:Nat):DTF:=λσ Q=>match σ[i]? with
 |some (some (.own (.dcT ks)))=>Q (ks.map (·.2))
 |_=>False
theorem zlx(i:Nat){x:Str}{p1:Pos}(hgl:Gl X "list")(hml:X.mg "list" = none)(hc:X.calm=true)(hN:X.N[i]?=some x:=by rfl)(hvis:Vis X.env.scope x:=by first|exact Or.inl rfl|exact Or.inr (Or.inl rfl)|exact Or.inr (Or.inr rfl))(hd:(x ==("__debug__" : Str))=false:=by decide)(hcd:(x ==("__classdict__" : Str))=false:=by decide)
  (hbase:attributeBase (.Name x p1) "values" X.env (eval (.Name x p1) X.env)=eval (.Name x p1) X.env:=by rfl) (hline:(apos.endLine == cpos.line)=true:=by rfl)
  (hs2:starEach [.Call (.Attribute (.Name x p1) "values" apos) [] [] cpos] X.env = [(false,eval (.Call (.Attribute (.Name x p1) "values" apos) [] [] cpos) X.env)]:=by rfl) :
  DF X (.Call (.Name "list" p) [.Call (.Attribute (.Name x p1) "values" apos) [] [] cpos] [] pos) (zck i) :=
 DF.of (zlw hgl hml hc (wc (i:=i) hN hvis hd hcd) hbase hline hs2) λσ H H₀ σD QD ok q=>by
  unfold zck at q
  split at q
  ·next ks eo=>
   obtain⟨a,vs,e1,e2,r,_⟩:=ok.dcT eo;exact⟨.ref a,e1,a,vs,rfl,.inl e2,λd hd=>⟨d,_,_,rfl,ya hd _,hd,zp,r.2.same (ya hd _),q⟩⟩
  ·exact q.elim
end
end L2
namespace L2
open PySem PySem.Spec PyProof.Rows SQ
section
variable {X:Cx}{pins:List (Addr×Obj)}{σ:St}{H:Hp}{s:Shared}
theorem zqe{l:List Int}{v:V}{u:Value}(I:Inv X pins σ H s)(r:Rep X.K H (tD l) v)(q:RelV v u):RefIs s.heap u l:=by
 have:=za6 I (tss:=[l]) (.cons r .nil) (.cons q .nil)
 cases this with
 |cons h _=>exact h
abbrev zkf(K:PySem.W.Frag)(H:Hp)(h:Heap)(kf:D->List Int)(p:Keyed)(q:V×D):Prop:=RelV q.1 p.2/\Rep K H q.2 q.1/\kz h p.1=some (kf q.2)
theorem zrb{kf:D->List Int}(I:Inv X pins σ H s):∀{ds:List D}{us ks:List Value}{vs kvs:List V},Vals vs us->Reps X.K H ds vs->Vals kvs ks->Reps X.K H (ds.map λd=>tD (kf d)) kvs->All2 (zkf X.K H s.heap kf) (ks.zip us) (vs.zip ds)
 |[],us,ks,vs,kvs,h1,h2,h3,h4=>by
  cases h2
  cases h1;simp only[List.zip_nil_right];exact .nil
 |d::ds,us,ks,vs,kvs,h1,h2,h3,h4=>by
  cases h2 with
  |cons r rs=>
   cases h1 with
   |cons q qs=>
    cases h4 with
    |cons r' rs'=>
     cases h3 with
     |cons q' qs'=>exact .cons ⟨q,r,zbt (zqe I r' q')⟩ (zrb I qs rs qs' rs')
theorem zly{kf:D->List Int}{h:Heap}{ps:List Keyed}{qs:List (V×D)}(a:All2 (zkf X.K H h kf) ps qs):Vals (qs.map (·.1)) (ps.map (·.2))/\Reps X.K H (qs.map (·.2)) (qs.map (·.1)):=by
 induction a with
 |nil=>exact⟨.nil,.nil⟩
 |cons z _ ih=>exact⟨.cons z.1 ih.1,.cons z.2.1 ih.2⟩
theorem zon{a kS f:Addr}{e1:Nat}{us:List Value}{vs:List V}{ds:List D}{kf:D->List Int}{R:PySem.Fin->Shared->Prop}{E:Value->Shared->Prop}(I:Inv X pins σ H s)(rv:Vals vs us)(rd:Reps X.K H ds vs)
  (hk:∀(i:Nat) (x:V) (d:D),vs[i]?=some x->ds[i]?=some d->zfz X pins σ f x H (tD (kf d))) (fa:FpOk X pins H a) (fk:FpOk X pins H kS) (ne:kS≠a) (ga:s.heap.get? a=some (seqObj "list" #[] e1)) (gk:s.heap.get? kS=some (seqObj "list" #[] 0)) (h64:us.length<64) (hne:∀d∈ds,kf d ≠ [])
  (hR:∀(s':Shared) (H':Hp) (out:Array Value) (c:Nat) (vs':List V) (ds':List D),Inv X pins σ H' s'->Same H H'->FpOk X pins H' a->s'.heap.get? a=some (seqObj "list" out c)->Vals vs' out.toList->Reps X.K H' ds' vs'->ds'.Perm ds->ds'.Pairwise (λx y=>¬ (kf y)<(kf x))->R (.done (.ret .none)) s') :
  wpAny (model X.prog X.w) X.A.in1.in1 (ksk_rest a (.ref f) false us.toArray e1 (.ref kS)) R E s:=by
 have lv:=rv.length;have ld:=rd.length;unfold ksk_rest;refine wpAny_bind (wpAny_rule ?_)
 first
  |rw[List.forIn_toArray]
  |(rw[<-Array.forIn_toList];simp only[List.toList_toArray])
  |rw[<-Array.forIn_toList]
 refine wpAny_bind (ksk_fold (λi s'=>∃H1 kA e kvs,Inv X pins σ H1 s'/\Same H H1/\s'.heap.get? kS=some (seqObj "list" kA e)/\s'.heap.get? a=some (seqObj "list" #[] e1)/\Vals kvs kA.toList/\Reps X.K H1 ((ds.take i).map λd=>tD (kf d)) kvs/\FpOk X pins H1 kS/\FpOk X pins H1 a) us 0 s
  ⟨H,#[],0,[],I,Same.refl _,gk,ga,.nil,.nil,fk,fa⟩ ?step ?done)
 case step=>
  rintro j x s' hx ⟨H1,kA,e,kvs,I1,sm,gk1,ga1,kv,kr,fk1,fa1⟩;simp only[Nat.zero_add]at kr ⊢;have hj:j<us.length:=(List.getElem?_eq_some_iff.mp hx).1;obtain⟨v,hv⟩:∃v,vs[j]?=some v:=⟨_,List.getElem?_eq_getElem (by omega)⟩
  obtain⟨x',hx',ru⟩:=rv.get hv;rw[hx]at hx'
  cases hx';obtain⟨d,hd,_⟩:=rd.get' hv;have sz:kA.size<=us.length:=by
   have h1:kvs.length=kA.size:=kv.length.trans Array.length_toList;have h2:min j ds.length=kvs.length:=by rw[<-kr.length,List.length_map,List.length_take]
   omega
  have I2:=zwm I1 fk1 fa1 gk1 ga1 (λv z=>by cases z) (λv z=>by cases z);refine wpAny_bind (wpAny_attempt (wpAny_mono (hk j v d hv hd _ s' H1 x I2 sm ru) (λkvv s2 ⟨H2,w,rw1,rp,J,sm2⟩=>?_) λ_ _ z=>z.elim));have p1:=J.pin (kS,seqObj "list" kA e) (List.mem_append_right _ (List.mem_append_right _ (.head _)));have p2:=J.pin (a,seqObj "list" #[] e1) (List.mem_append_right _ (List.mem_append_right _ (.tail _ (.head _))));have J':=J.unpinned;have ek:((ds.take (j+1)).map λd=>tD (kf d))=((ds.take j).map λd=>tD (kf d)) ++ [tD (kf d)]:=by rw[List.take_add_one,hd];simp
  refine wpAny_bind (listUpdate_at p1.1 rfl ?_ (by rw[sizeLine_eq];omega) (Nat.le_trans (Nat.le_of_eq (Array.size_push ..)) (by rw[sizeLine_eq];omega)));refine wpAny_pure ⟨rfl,H2,kA.push kvv,_,kvs ++ [w],(fk1.at p1.2.1).inv (t':=s2.toks) J' (λb o n e=>(Heap.get?_update_other _ _ (Ne.symm n)).trans e),sm.trans sm2,get?_update_seq p1.1 (·.push kvv),(Heap.get?_update_other _ _ ne).trans p2.1,?_,?_,fk1.at p1.2.1,fa1.at p2.2.1⟩
  ·rw[Array.toList_push];exact kv.append (.cons rw1 .nil)
  ·rw[ek];exact(kr.same sm2).append (.cons rp .nil)
 case done=>
  rintro s' ⟨H1,kA,e,kvs,I1,sm,gk1,ga1,kv,kr,fk1,fa1⟩;rw[Nat.zero_add,List.take_of_length_le (by omega)]at kr;have sz:kA.size=us.length:=by
   have h1:kvs.length=kA.size:=kv.length.trans Array.length_toList;have h2:ds.length=kvs.length:=by rw[<-kr.length,List.length_map]
   omega
  have z3:=zrb I1 rv (rd.same sm) kv kr;have pz:(kA.zip us.toArray).size=us.length:=by rw[Array.size_zip,sz,List.size_toArray,Nat.min_self]
  have zl:(kA.zip us.toArray).toList=kA.toList.zip us:=ksk_zip kA us;have tl:∀st:SortSt,(arrOf st).Perm (kA.zip us.toArray)->SortedToK (zc6 s'.heap) (arrOf st) (kA.zip us.toArray).size->failedOf st=none->wpAny (model X.prog X.w) X.A.in1.in1 (ksk_tail a false e1 (.ref kS) st) R E s':=λst hp hs hf=>by
   have ga2:(s'.heap.update kS (Obj.mapSeq λ_=>(#[]:Array Value))).get? a=some (seqObj "list" #[] e1):=(Heap.get?_update_other _ _ ne).trans ga1;have osz:((arrOf st).map (·.2)).size=us.length:=by rw[Array.size_map,hp.size_eq,pz]
   have pl:=Array.perm_iff_toList_perm.mp hp;rw[zl]at pl;obtain⟨qs,a2,pq⟩:=z3.perm pl;obtain⟨v2,r2⟩:=zly a2;have pw:(arrOf st).toList.Pairwise λp q=>(zc6 s'.heap).kle ((kz s'.heap p.1).getD []) ((kz s'.heap q.1).getD []):=by
    rw[List.pairwise_iff_getElem];intro i j h1 h2 hij;have h1':i<(arrOf st).size:=by simpa using h1
    have h2':j<(arrOf st).size:=by simpa using h2
    have:=hs i j (Nat.le_of_lt hij) (by rw[<-hp.size_eq];exact h2');unfold KK at this;rw[Array.getElem?_eq_getElem h1',Array.getElem?_eq_getElem h2']at this;simpa using this
   have pd:(qs.map (·.2)).Perm ds:=by
    have:=pq.map (·.2)
    rwa [show(vs.zip ds).map (·.2)=ds by rw[List.map_snd_zip (by omega)]]at this
   unfold ksk_tail
   try dsimp only
   refine wpAny_bind (listUpdate_at gk1 rfl ?_ (by rw[sz,sizeLine_eq];omega) (Nat.zero_le _));refine wpAny_bind (wpAny_letGo ?_);refine wpAny_bind (seqEpoch_at ga2 rfl ?_);simp only[Bool.false_eq_true,if_false];refine wpAny_bind (listUpdate_at ga2 rfl ?_ (Nat.zero_le _) (Nat.le_trans (Nat.le_of_eq osz) (by rw[sizeLine_eq];omega)));rw[hf];simp only[bne_self_eq_false,Bool.false_eq_true,if_false];have I2:=fk1.inv (t':=s'.toks) I1 (h':=s'.heap.update kS (Obj.mapSeq λ_=>(#[]:Array Value))) λb o n e=>(Heap.get?_update_other _ _ (Ne.symm n)).trans e;have I3:=fa1.inv (t':=s'.toks) I2 (h':=(s'.heap.update kS (Obj.mapSeq λ_=>(#[]:Array Value))).update a (Obj.mapSeq λ_=>(arrOf st).map (·.2))) λb o n e=>(Heap.get?_update_other _ _ (Ne.symm n)).trans e;refine wpAny_pure (hR _ H1 _ _ (qs.map (·.1)) (qs.map (·.2)) I3 sm fa1 (get?_update_seq ga2 λ_=>(arrOf st).map (·.2)) ?_ r2 pd ?_)
   ·rw[Array.toList_map];exact v2
   ·rw[List.pairwise_map];refine a2.pair (λp q p' q' h1 h2 t=>?_) pw;rw[h1.2.2,h2.2.2]at t;simpa[KeyOrd.kle]using t
  refine wpAny_bind (listItems_at gk1 rfl ?_);unfold ksk_end
  try dsimp only
  simp only[Bool.false_eq_true,if_false];have rfs:All2 (RefIs s'.heap) kA.toList (ds.map kf):=za6 I1 (tss:=ds.map kf) (by rw[List.map_map];exact kr) kv
  by_cases c:us.toArray.size<2
  ·rw[if_pos c,if_pos c];refine wpAny_bind (wpAny_pure ?_);rw[StateT.run_pure];refine wpAny_bind (wpAny_pure ?_)
   try dsimp only
   refine tl (SortSt.mk' general' (kA.zip us.toArray) #[] 7 none) (Array.Perm.refl _) (λi j hij hj=>?_) rfl;rw[pz]at hj;rw[List.size_toArray]at c;have:i=j:=by omega
   subst this;exact KeyOrd.kle_refl _
  ·rw[if_neg c,if_neg c];rw[List.size_toArray]at c;refine wpAny_bind ?_;rw[<-Array.toArray_toList (xs:=kA)];refine zev rfs (λt ht=>by obtain⟨d,hd,rfl⟩:=List.mem_map.mp ht;exact hne d hd) (by rw[Array.length_toList];omega) ?_
   refine wpAny_bind (wpAny_mono (zb4 (κ:=zc6 s'.heap) (kd:=tuples' true) (a₀:=kA.zip us.toArray) (st:=SortSt.mk' (tuples' true) (kA.zip us.toArray) #[] 7 none)
    (Q:=λ_ st'=>(arrOf st').Perm (kA.zip us.toArray)/\failedOf st'=none/\SortedToK (zc6 s'.heap) (arrOf st') (kA.zip us.toArray).size) (zj4 λ_ _ e=>e)
    (λp hp=>?_) ⟨Array.Perm.refl _,rfl,rfl⟩ rfl (by rw[pz];omega) (by rw[pz];exact h64) λst' g' s'=>⟨g'.perm,g'.fail,s'⟩) ?_ λ_ _ e=>e)
   ·rw[zl]at hp;obtain⟨b,_,z⟩:=z3.mem hp;exact⟨_,z.2.2⟩
   ·rintro ⟨⟨⟩,st'⟩ s'' ⟨rfl,hp,hf,hs⟩;exact tl st' hp hs hf
theorem zi1{A:Around}{E:Value->Shared->Prop}{Q:List Value->Shared->Prop}{r:Addr}{j:Int}{t u v:Tok}{n:Nat}(hh:A.handled=none)(hr:IsRange s.heap r 0 j 1 t u v)(hs:Builtin.Range.small 0 j 1=true)(hn:Builtin.Range.rangeSize 0 j 1=n)(hl:n<=2 ^ 24)
  (q:∀h' tk (acc:Array Value),(∀b o,s.heap.get? b=some o->h'.get? b=some o)->ItemsOf (λi v=>∃t,v=.int (0+i * 1) t) acc n->Q acc.toList { s with heap:=h',toks:=tk }):wpAny (model X.prog X.w) A (collect (.ref r)) Q E s:=by
 unfold collect;refine wpAny_bind (wpAny_runValue (codeAny_builtin PySem.F.entry_proto_collect ?_));rw[Around.under_plainId PySem.F.plain_proto_collect _];show wpAny _ A.in1 (newList [] >>= λz=>again (.builtin "list.__iadd__" ⟨[z,.ref r],[]⟩)) _ _ s;refine wpAny_bind (wpAny_newObj_type ?_);refine wpAny_pure ⟨plainId_quiet PySem.F.plain_list_iadd _,codeAny_builtin PySem.F.entry_list_iadd ?_⟩;rw[Around.under_plainId PySem.F.plain_list_iadd _];show wpAny _ A.in1 (Builtin.List.listExtendWith (.ref s.heap.objs.size) (.ref r) (.ref s.heap.objs.size)) _ _ _;have g1:(s.heap.push { cls:=.type "list",data:=.seq ([]:List Value).toArray }).get? s.heap.objs.size=some { cls:=.type "list",data:=.seq #[] 0 }:=Heap.get?_push_size _ rfl;refine wpAny_mono (wpAny_extend_range (A:=A) (R:=λr' s'=>r'=.ok (.ret (.ref s.heap.objs.size))/\∃h' tk acc c',s' = { s with heap:=h',toks:=tk }/\(∀b o,s.heap.get? b=some o->h'.get? b=some o)/\h'.get? s.heap.objs.size=some { cls:=.type "list",dict:=none,data:=.seq acc c',slots:=#[] }/\ItemsOf (λi v=>∃t,v=.int (0+i * 1) t) acc n)
  (s:={ s with heap:=s.heap.push { cls:=.type "list",data:=.seq ([]:List Value).toArray } }) hh (Heap.get?_push_of_some _ hr) hs hn hl _ _ 0 g1 λh' tk acc c' hk hS hi=>⟨rfl,h',tk,acc,c',rfl,λb o e=>hk b o (Nat.ne_of_lt (Heap.lt_size e)) (Heap.get?_push_of_some _ e),hS,hi⟩) (λf s' z=>?_) (λe s' z=>absurd z.1 (by simp))
 have fin:∀s',(∃h' tk acc c',s' = { s with heap:=h',toks:=tk }/\(∀b o,s.heap.get? b=some o->h'.get? b=some o)/\h'.get? s.heap.objs.size=some { cls:=.type "list",dict:=none,data:=.seq acc c',slots:=#[] }/\ItemsOf (λi v=>∃t,v=.int (0+i * 1) t) acc n)->wpAny (model X.prog X.w) A (match Value.ref s.heap.objs.size with
   |Value.ref z=>do
    match (<-load z).data with
     |Data.seq ys _=>pure ys.toList
     |_=>unsupported "internal:collect"
   |_=>unsupported "internal:collect") Q E s':=by
  rintro _ ⟨h',tk,acc,c',rfl,hk,hS,hi⟩;show wpAny _ A (load s.heap.objs.size >>= _) _ _ _;exact wpAny_bind (wpAny_load hS (wpAny_pure (q h' tk acc hk hi)))
 cases f with
 |done f=>
  obtain⟨e,z⟩:=z
  cases e;exact fin _ z
 |again c'=>exact⟨z.1,codeAny_mono z.2 λr s2 y=>by obtain⟨rfl,z⟩:=y;exact fin _ z⟩
theorem zi2{f r:Addr}{j:Int}{t u v:Tok}{kf:D->List Int}{Q:Value->Shared->Prop}(hh:X.A.handled=none)(I:Inv X pins σ H s)
  (hr:IsRange s.heap r 0 j 1 t u v) (h0:0<=j) (h64:j<64) (hne:∀d∈y9 0 j.toNat,kf d ≠ [])
  (hk:∀(x:V) (d:D) (H':Hp),d∈y9 0 j.toNat->Rep X.K H d x->zfz X pins σ f x H (tD (kf d)))
  (hR:∀(a:Addr) (s':Shared) (H':Hp) (vs':List V) (ds':List D),Inv X pins σ H' s'->Same H H'->H a=none->H' a=some (.lst vs')->Reps X.K H' ds' vs'->ds'.Perm (y9 0 j.toNat)->ds'.Pairwise (λx y=>¬ kf y<kf x)->Q (.ref a) s') :
  wpAny (model X.prog X.w) X.A (call (.builtin "sorted") [.ref r] [(Str.ofString "key",.ref f)]) Q X.xe s:=by
 refine call_function_entry_kw kind_sorted plain_sorted entry_sorted (ksk_s1 _ _) ?_;unfold Builtin.«sorted»;refine wpAny_bind (m:=checkCount "sorted" 1 1 _) (wpAny_pure ?_);refine wpAny_bind (zi1 (X:=X) (A:=X.A.in1) (n:=j.toNat) hh hr (small_one (by omega) (by omega) (by omega) (by omega)) (by rw[rangeSize_one];split <;> omega) (by omega) λh' tk acc hk' hacc=>?_);have I':Inv X pins σ H { s with heap:=h',toks:=tk }:=I.kept hk';have rv:=zg9 hacc;have rd:Reps X.K H (y9 0 j.toNat) ((List.range j.toNat).map λi:Nat=>V.int i):=zc7 _;have lz:acc.toList.length=j.toNat:=by rw[<-rv.length];simp
 have hz:acc.toList.length<=sizeLine:=by rw[sizeLine_eq];omega
 generalize hus:acc.toList=us at rv lz hz;refine wpAny_bind (wpAny_newList ?_ hz);generalize hs1:({ s with heap:=h',toks:=tk }:Shared)=s1 at I';have e1h:h'=s1.heap:=by rw[<-hs1]
 have e1t:tk=s1.toks:=by rw[<-hs1]
 show wpAny _ _ _ _ _ { s1 with heap:=s1.heap.push (seqObj "list" us.toArray 0) };have gL:(s1.heap.push (seqObj "list" us.toArray 0)).get? s1.heap.objs.size=some (seqObj "list" us.toArray 0):=Heap.get?_push_size _ rfl;have eL:(s1.heap.push (seqObj "list" us.toArray 0)).objs.size=s1.heap.objs.size+1:=size_push' ..;have k2:∀b o,s1.heap.get? b=some o->(s1.heap.push (seqObj "list" us.toArray 0)).get? b=some o:=λb o e=>Heap.get?_push_of_some _ e;generalize hh1:s1.heap.push (seqObj "list" us.toArray 0)=h1 at gL eL k2;refine wpAny_bind (wpAny_holding (wpAny_call_entry_kw slot_list_sort ⟨_,gL,rfl⟩ entry_list_sort ?_ (ksk_l1 _ _)));show wpAny (model X.prog X.w) X.A.in1.in1 (Builtin.«list.sort» ⟨[.ref s1.heap.objs.size],[(Str.ofString "key",.ref f)]⟩) _ _ _;rw[ksk_t1];unfold ksk_tree;have h0':X.s₀.heap.get? s1.heap.objs.size=none:=Heap.get?_none_of_le I'.sz;have fa:FpOk X pins H s1.heap.objs.size:=I'.fpOk (Nat.le_refl _) (I'.hok.fresh (Nat.le_refl _));have fk:FpOk X pins H (s1.heap.objs.size+2):=I'.fpOk (by omega) (I'.hok.fresh (by omega));have ne:s1.heap.objs.size+2≠s1.heap.objs.size:=by omega
 have old:∀b o,s1.heap.get? b=some o->b≠s1.heap.objs.size:=λb o e=>Nat.ne_of_lt (Heap.lt_size e);generalize ha:s1.heap.objs.size=a at gL fa ne old h0' eL fk;refine wpAny_bind (listItems_at gL rfl ?_);refine wpAny_bind (listUpdate_at gL rfl ?_ (by simpa using hz) (Nat.zero_le _));obtain⟨e1,g1⟩:∃e1,(h1.update a (Obj.mapSeq λ_=>#[])).get? a=some (seqObj "list" #[] e1):=⟨_,get?_update_seq gL (λ_=>#[])⟩
 refine wpAny_bind (seqEpoch_at g1 rfl ?_);refine wpAny_bind (wpAny_newTuple ?_ (by simpa using hz));refine wpAny_bind (wpAny_newList ?_ (Nat.zero_le _));refine wpAny_holding ?_;have eK:((h1.update a (Obj.mapSeq λ_=>#[])).push (seqObj "tuple" us.toArray 0)).objs.size=a+2:=by rw[size_push',Heap.size_update,eL]
 have gK:(((h1.update a (Obj.mapSeq λ_=>#[])).push (seqObj "tuple" us.toArray 0)).push (seqObj "list" #[] 0)).get? (a+2)=some (seqObj "list" #[] 0):=by rw[<-eK];exact Heap.get?_push_size _ rfl
 have gA:(((h1.update a (Obj.mapSeq λ_=>#[])).push (seqObj "tuple" us.toArray 0)).push (seqObj "list" #[] 0)).get? a=some (seqObj "list" #[] e1):=Heap.get?_push_of_some _ (Heap.get?_push_of_some _ g1);have I1:Inv X pins σ H { s1 with heap:=((h1.update a (Obj.mapSeq λ_=>#[])).push (seqObj "tuple" us.toArray 0)).push (seqObj "list" #[] 0),toks:=s1.toks }:=I'.kept λb o e=>Heap.get?_push_of_some _ (Heap.get?_push_of_some _ (by rw[Heap.get?_update_ne _ _ _ _ (old b o e)];exact k2 b o e));show wpAny _ _ (ksk_rest a (.ref f) false us.toArray e1 (.ref ((h1.update a (Obj.mapSeq λ_=>#[])).push (seqObj "tuple" us.toArray 0)).objs.size)) _ _ { s1 with heap:=((h1.update a (Obj.mapSeq λ_=>#[])).push (seqObj "tuple" us.toArray 0)).push (seqObj "list" #[] 0) };rw[eK];refine zon (kf:=kf) I1 rv rd (λi x d hx hd=>?_) fa fk ne gA gK (by omega) hne λs' H' out c vs' ds' J sm fa' g rv' rd' pm pw=>⟨_,rfl,?_⟩
 ·obtain⟨d',hd',rp⟩:=rd.get' hx;rw[hd]at hd'
  cases hd';exact hk x d H (List.mem_of_getElem? hd) rp
 refine wpAny_pure ⟨_,rfl,?_⟩;have lv:vs'.length<=sizeLine:=by rw[<-rd'.length,pm.length_eq,rd.length,rv.length];exact hz
 have J2:=J.track (o:=.lst vs') fa'.1 h0' fa'.2.1 fa'.2.2.2.2.1 fa'.2.2.2.2.2 ⟨lv,out.toList,c,rv',g⟩;exact hR a s' _ vs' ds' J2 (sm.trans (ya fa'.1 _)) (sm.free fa'.1) zp (rd'.same (ya fa'.1 _)) pm pw
end
section
variable {X:Cx}{a body:Expr}{ta:DTF}{tb:DTE}{p pos p2 pos2 kp lp:Pos}{k:Nat}{P c:Addr}{q y n:Str}{params:Arguments}{scope:Scope}
theorem zlz{pins:List (Addr×Obj)}{σ:St}{H:Hp}{f c' cl:Addr}{oc:Obj}{u:HO}{pm ctv:Value}{x vn:V}{d dn kd:D}{i:Nat}(hr:Room (k+3) X.A)(S:za9 y n scope)
  (hN:X.N[i]?=some n) (hk:X.env.kindOf n=some .cell) (hcl:X.env.cells.lookup n=some cl) (hvis:Vis X.env.scope n)
  (hbd:∀(pm cd ctv u:Value),bindArgs (PySem.W.kla_fn "<lambda>" q params body scope [(n,cl)] pm cd ctv) ⟨[u],[]⟩=pure [(y,u)])
  (hb:∀(A:Around) (outer:List Env) (s:Shared) (H:Hp) (E:XK) (f:Addr) (cd:Value) (cs:List (Str×Addr)),Room k (A.deeper (zdf q scope s.heap.objs.size f cd cs))->DE (zlt X.prog X.w X.K X.mg X.base [y,n] q scope f cd cs A outer s H E).nox body tb)
  (hc':H c'=some (.frz oc u)) (co:zi9 oc q) (rp:Rep X.K H d x) (hv:σ[i]?=some (some vn)) (rn:Rep X.K H dn vn) (hn:tb [some (.val d),some (.val dn)] λr=>r=kd) :
  zfz X (pins ++ [(f,PySem.W.kla_obj "<lambda>" q params body scope [(n,cl)] pm c' ctv)]) σ f x H kd:=λps s1 H1 u1 I1 sm ru=>by
 have pf:=I1.pin (f,PySem.W.kla_obj "<lambda>" q params body scope [(n,cl)] pm c' ctv) (List.mem_append_right _ (List.mem_append_left _ (List.mem_append_right _ (.head _))));obtain⟨vs,tq,hd,hv'⟩:=co;obtain⟨g,_⟩:=(show ObjOk X.prog X.w H1 s1.heap c' (.frz oc u) from I1.hok c' _ (sm _ _ hc'))
 obtain⟨mm,hns,hl⟩:=id I1.loc;obtain⟨un,rvn,lk⟩:=hl i n vn hN hv hvis;have cell:s1.heap.IsCell cl (some un):=by
  rcases lk with⟨z,_⟩ |⟨_,c2,e2,z⟩
  ·rw[hk]at z;cases z
  ·rw[hcl]at e2;cases e2;exact z
 have run:=zoi (k:=k) (y:=y) (n:=n) (u:=u1) (un:=un) (v:=x) (vn:=vn) (Q:=λv H2=>Same H1 H2/\Rep X.K H2 kd v) (E:=E0) hr.in1.in1 I1.env0.in1.in1 pf.1 ⟨c',oc,vs,tq,rfl,g,hd,hv'⟩ S (hbd _ _ _ _) ru rvn cell (I1.freeC n cl hcl)
  (hb _ _ _ _ _ _ _ _ (hr.in1.in1.deeper _)).pe ⟨H1,[some (.val d),some (.val dn)],λr=>r=kd,DOk.begin (.cons (show zsc X.K H1 (.val d) x from rp.same sm) (.cons (show zsc X.K H1 (.val dn) vn from rn.same sm) .nil)) [y,n],hn,λv H' d' sm' rp' e=>by subst e;exact⟨sm',rp'⟩⟩
 refine wpAny_call (codeAny_mono run λr s' h=>?_)
 cases r with
 |error e=>exact False.elim h
 |ok fl=>
  cases fl with
  |ret u2=>
   obtain⟨v,H2,J,rv,sm2,e⟩:=I1.after h;exact⟨H2,v,rv,e,J,sm2⟩
  |next=>exact False.elim h
  |brk=>exact False.elim h
  |cont=>exact False.elim h
def zcl(i:Nat)(rb:D->D->(D->Prop)->Prop)(ta:DTF):DTF:=λσ Q=>match σ[i]? with
 |some (some (.val dn))=>ta σ λds=>match ds with
  |[.int j]=>0<=j/\j<64/\∃kf:D->List Int,(∀x∈y9 0 j.toNat,kf x ≠ []/\rb x dn λr=>r=tD (kf x))/\∀ys:List D,ys.Perm (y9 0 j.toNat)->ys.Pairwise (λx y=>¬ kf y<kf x)->Q ys
  |_=>False
 |_=>False
theorem zl0{i:Nat}{cl:Addr}(hc:X.calm=true)(hr:Room (k+3) X.A)(hg:Gl X "sorted")(hm:X.mg "sorted" = none)(hg2:Gl X "range")(hm2:X.mg "range" = none)(ha:DA X [a] ta)(hT:j9 q P X.H₀)(C:PySem.W.CodeHd X.base c P)(hcode:X.env.code=.ref c)(hB:jq X.mg X.base)
  (hq:X.env.qual ++ "<lambda>" = q) (hclo:closureFor scope X.env=pure [(n,cl)]) (hdf:defaultsOf params X.env=([],[])) (S:za9 y n scope)
  (hN:X.N[i]?=some n) (hk:X.env.kindOf n=some .cell) (hcl:X.env.cells.lookup n=some cl) (hvis:Vis X.env.scope n)
  (hbd:∀(pm cd ctv u:Value),bindArgs (PySem.W.kla_fn "<lambda>" q params body scope [(n,cl)] pm cd ctv) ⟨[u],[]⟩=pure [(y,u)])
  (hb:∀(A:Around) (outer:List Env) (s:Shared) (H:Hp) (E:XK) (f:Addr) (cd:Value) (cs:List (Str×Addr)),Room k (A.deeper (zdf q scope s.heap.objs.size f cd cs))->DE (zlt X.prog X.w X.K X.mg X.base [y,n] q scope f cd cs A outer s H E).nox body tb)
  (he:starEach [.Call (.Name "range" p2) [a] [] pos2] X.env=(false,eval (.Call (.Name "range" p2) [a] [] pos2) X.env)::starEach [] X.env:=by rfl) (hs:starEach [a] X.env = [(false,eval a X.env)]:=by rfl) :
  DF X (.Call (.Name "sorted" p) [.Call (.Name "range" p2) [a] [] pos2] [⟨some (Str.ofString "key"),.Lambda params body scope lp,kp⟩] pos) (zcl i (λx dn=>tb [some (.val x),some (.val dn)]) ta) :=
 ⟨λpins s σ H H₀ σD Q I ok q0=>by
 unfold zcl at q0
 split at q0
 case h_2=>exact q0.elim
 next dn edn=>
 obtain⟨vn,evn,rn⟩:=ok.val edn;refine wpAny_Call_Name_kw (v6 I hg hm boot_sorted ?_ (by decide) (by decide));refine callWith_kw ?_ (by rw[he];rfl) (by rw[he];rfl);rw[he];refine Calls.spliced_cons ?_;refine Call_ (v6 I hg2 hm2 boot_range (PyProof.Rows.callWith_type1 (thn (ha.run pos2 pins s σ H H₀ σD _ I ok q0) λus s1 ⟨vs,H1,ds,I1,r1,sm1,rp1,q1⟩=>?_) hs rfl))
 match ds,q1,rp1 with
 |[.int j],q1,rp1=>
  obtain⟨h0,h64,kf,k1,k3⟩:=q1
  cases rp1 with
  |cons r rr=>
  cases rr;obtain⟨u',rfl,ru⟩:=r1.one
  cases r;obtain⟨t,rfl⟩:=ru;refine call_range_1 (Calls.spliced_nil ?_);have hR0:IsRange (s1.heap.push { cls:=.type "range",data:=.fields #[.int 0 s1.toks,.int j t,.int 1 (s1.toks+1)] }) s1.heap.objs.size 0 j 1 s1.toks t (s1.toks+1):=IsRange.new ..;have fr:H1 s1.heap.objs.size=none:=I1.hok.fresh (Nat.le_refl _);have fpr:=I1.fpOk (H':=H1) (Nat.le_refl _) fr;have I1':Inv X pins σ H1 { s1 with heap:=s1.heap.push { cls:=.type "range",data:=.fields #[.int 0 s1.toks,.int j t,.int 1 (s1.toks+1)] },toks:=s1.toks+2 }:=I1.kept λb o e=>Heap.get?_push_of_some _ e;generalize s1.heap.objs.size=r at hR0 fr fpr ⊢;have I1r:Inv X (pins ++ [(r,{ cls:=.type "range",data:=.fields #[.int 0 s1.toks,.int j t,.int 1 (s1.toks+1)] })]) σ H1 { s1 with heap:=s1.heap.push { cls:=.type "range",data:=.fields #[.int 0 s1.toks,.int j t,.int 1 (s1.toks+1)] },toks:=s1.toks+2 }:=I1'.pins_of λz hz=>by
   rcases List.mem_append.mp hz with hz|hz
   ·exact I1'.pin z (List.mem_append_right _ hz)
   ·rw[List.mem_singleton.mp hz];exact⟨hR0,fr,fpr.2.1,fpr.2.2.1,λv z=>by cases z⟩
  refine wpAny_evalAll_cons (wpAny_bind (PySem.W.kla_eval hdf ?_));rw[hq];refine zls I1r (I1r.tabAt hT) C hcode hB hclo λf c' oc u ctv H2 s2 I2 sm2 hc' co lf _ hf gf=>?_;refine wpAny_bind (wpAny_standAt (wpAny_pure (wpAny_evalAll_nil ?_)));have fp:=I1r.fpOk (H':=H2) lf hf;have I3:Inv X ((pins ++ [(r,{ cls:=.type "range",data:=.fields #[.int 0 s1.toks,.int j t,.int 1 (s1.toks+1)] })]) ++ [(f,PySem.W.kla_obj "<lambda>" q params body scope [(n,cl)] ((X.mg "__name__").getD .none) c' ctv)]) σ H2 s2:=I2.pins_of λz hz=>by
   rcases List.mem_append.mp hz with hz|hz
   ·exact I2.pin z (List.mem_append_right _ hz)
   ·rw[List.mem_singleton.mp hz];exact⟨gf,hf,fp.2.1,fp.2.2.1,λv z=>by cases z⟩
  have gr:=(I3.pin (r,{ cls:=.type "range",data:=.fields #[.int 0 s1.toks,.int j t,.int 1 (s1.toks+1)] }) (List.mem_append_right _ (List.mem_append_left _ (List.mem_append_right _ (.head _))))).1;refine zi2 (kf:=kf) (hr.hd:X.A.handled=none) I3 gr h0 h64 (λd hd=>(k1 d hd).1) (λx d _ hd rp=>?_) λa' s' H' vs' ds' J sm hn e rd' pm pw=>?_
  ·exact zlz hr S hN hk hcl hvis hbd hb hc' co rp evn ((rn.same sm1).same sm2) (k1 d hd).2
  ·exact⟨a',H',vs',ds',rfl,J.unpinned.unpinned,sm1.trans (sm2.trans sm),sm1.free (sm2.free hn),e,rd',k3 ds' pm pw⟩⟩
end
end L2
namespace PySem
namespace SeqAt
open AutoSeq1 (wpAny_loadPart')
theorem zoo{M:Model}{A:Around}{E:Value->Shared->Prop}{s:Shared}{β:Type}(f:Nat->β->Sem (ForInStep β))(I:List Nat->β->Shared->Prop)(Q:β->Shared->Prop)
  (turn:∀x rest b s,I (x::rest) b s->wpAny M A (f x b) (λr s'=>match r with|.yield b'=>I rest b' s'|.done b'=>Q b' s') E s)
  (fin:∀b s,I [] b s->Q b s) (n:Nat) (b:β) (h:I (List.range' 0 n) b s):wpAny M A (forIn [0:n] b f) Q E s:=by
 rw[Std.Legacy.Range.forIn_eq_forIn_range'];refine wpAny_forIn_list f I Q turn fin _ b ?_;simpa[Std.Legacy.Range.size]using h
theorem tuple_indexAt(l:Addr)(items:Array Value)(n:Nat)(dd:Option Addr)(sl:Array (Option Value))(x:Value)(e:Value->Bool)(j:Nat)(hj:j<items.size)(h1:e items[j]=true)(h2:∀m (h:m<items.size),m<j->e items[m]=false):
  Meets (Builtin.«tuple.index» ⟨[.ref l,x],[]⟩)
   (λA R s=>s.heap.get? l=some { cls:=.type "tuple",dict:=dd,data:=.seq items n,slots:=sl }/\(∀y,y∈items->EqAt A.in1 s y x (e y))/\R (.ok (.ret (.int (j:Nat) s.toks))) { s with toks:=s.toks+1 }) :=
 .of_wp λprog w A R s h=>by
  obtain⟨hp,g,d,tk,os⟩:=s;obtain⟨hl,he,h⟩:=h
  wp_walk using wpAny_loadPart' hl,zoo _ (λrest b s'=>b.1=none/\s'=⟨hp,g,d,tk,os⟩/\∃i,i<=j/\rest=List.range' i (items.size-i)) _
  case turn=>
   rintro y rest b s' ⟨hb',rfl,i,hi,hz⟩;have lt:i<items.size:=by omega
   rw[show items.size-i=(items.size-(i+1))+1 by omega,List.range'_succ]at hz;injection hz with hy hrest
   subst hy;rw[Array.getElem?_eq_getElem lt];refine wpAny_bind (he items[y] (Array.getElem_mem lt) prog w _ _ ?_)
   by_cases c:y=j
   ·subst c;rw[h1,if_pos rfl]
    wp_walk
    exact⟨_,rfl,h⟩
   ·rw[h2 y lt (by omega),if_neg (by decide)];refine wpAny_pure ⟨rfl,rfl,y+1,by omega,hrest⟩
  case fin=>
   rintro ⟨b1,b2⟩ s' ⟨hb',rfl,i,hi,hz⟩;rw[show items.size-i=(items.size-(i+1))+1 by omega,List.range'_succ]at hz
   cases hz
  case h=>
   exact⟨rfl,rfl,0,Nat.zero_le _,by simp⟩
end SeqAt
end PySem
namespace L2
open PySem PySem.Spec PyProof.Rows
section
variable {X:Cx}
theorem zl1:MtR X "tuple.index" (λx vs H Q=>∃(l:Addr) (ns:List Int) (k:Int) (j:Nat),x=.ref l/\vs = [.int k]/\SqT X.K H l (ns.map V.int)/\ns[j]?=some k/\(∀m,m<j->ns[m]?≠some k)/\Q (.int (j:Int)) H):=by
 intro pins s σ H x vs v us Q I rx rv h;obtain⟨l,ns,k,j,rfl,rfl,hR,hk,hno,q⟩:=h
 cases rx;obtain⟨u,rfl,ru⟩:=rv.one;obtain⟨t,rfl⟩:=ru;obtain⟨its,r,⟨⟨cls,dd,data,sl⟩,e,hc,⟨n,hd⟩,_⟩,z⟩:=I.tupleD hR;simp only at hc hd;subst hc hd;have hl:=r.length;rw[List.length_map]at hl;have hj:j<its.length:=by have:=(List.getElem?_eq_some_iff.mp hk).1;omega
 refine call_meets F.slot_tuple_index ⟨_,e,rfl⟩ F.entry_tuple_index (F.args_tuple_index_2 _ _) (PySem.SeqAt.tuple_indexAt l its.toArray n dd sl (.int k t) (ztg k) j (by simpa using hj) ?_ (λm hm hmj=>?_)) ⟨e,λy hy=>?_,?_⟩
 ·have:=zn8 r k hj;simp only[List.getElem_toArray];rw[this];exact decide_eq_true hk
 ·have:=zn8 r k (j:=m) (by simpa using hm);simp only[List.getElem_toArray];rw[this];exact decide_eq_false (hno m hmj)
 ·obtain⟨i,t',rfl⟩:=zp0 r y (by simpa using hy);exact(PySem.MeetsSeq.EqGives.int i k t' t).at _ _
 ·exact⟨.int (j:Int),H,I.tok _,⟨_,rfl⟩,q⟩
variable {o e:Expr}{to te:DTE}{apos cpos:Pos}
def zop(to te:DTE):DTE:=λσ Q=>to σ λd=>match d with
 |.tuple xs=>te σ λk=>match k with
  |.int i=>∃(ns:List Int) (j:Nat),xs=ns.map PyData.int/\ns[j]?=some i/\(∀m,m<j->ns[m]?≠some i)/\Q (.int j)
  |_=>False
 |_=>False
theorem zl2(ho:DV X o to)(ha:DE X e te)(hbase:attributeBase o "index" X.env (eval o X.env)=eval o X.env:=by rfl)
  (hfew:((backTo cpos (starEach [e] X.env)).all (λx=>!x.1) && (backToKw cpos (keywordEach [] X.env)).all (λx=>x.1.isSome) && decide (([e]:List Expr).length+([]:List Keyword).length+(if ([]:List Keyword).isEmpty then 0 else 1)<30))=true:=by rfl)
  (hline:(apos.endLine == cpos.line)=true:=by rfl) (hs:starEach [e] X.env=(false,eval e X.env)::starEach [] X.env:=by rfl) (hplain:(backTo cpos (starEach [] X.env)).any (·.1)=false:=by rfl) :
  DE X (.Call (.Attribute o "index" apos) [e] [] cpos) (zop to te) :=
 DE.of (zgp F.plainAttrs_tuple F.slot_tuple_index F.type_tuple_index zl1 ho.pe (xz ha.pe vf hs) hbase hfew hline hs hplain) λσ H H₀ σD QD ok q=>⟨H₀,σD,_,ok,q,λv H1 d s1 r1 q1=>by
  cases d with
  |tuple xs=>
   obtain⟨a,vs,rfl,hR,rp⟩:=r1.tuple;refine⟨.inr (.inl ⟨rfl,vs,hR⟩),H₀,σD,_,ok.after s1,q1,λv2 H2 d2 s2 r2 q2=>?_⟩
   cases d2 with
   |int i=>
    obtain⟨ns,j,rfl,hk,hno,q3⟩:=q2
    cases r2;have e:=zez rp;subst e;exact⟨a,ns,i,j,rfl,rfl,s2.seqT hR,hk,hno,.int _,s1.trans s2,.int,q3⟩
   |_=>exact q2.elim
  |_=>exact q1.elim⟩
end
end L2
namespace My
open PySem L2 PyProof.Rows
def top(i:Nat):Stmt:=PySem.Challenge.pw_knockpurse_k56_whole_roads.main.body.getD i (.Pass ⟨0,0,0,0⟩)
abbrev x5:Stmt:=top 5
theorem zhh:z9 ["thing"] ["thing"] (za x5):=⟨rfl,rfl,rfl,by decide +kernel,rfl,by decide +kernel,by decide +kernel⟩
abbrev x6:Stmt:=top 6
theorem zhi:z9 ["thing", "least", "most"] ["thing", "least", "most"] (za x6):=⟨rfl,rfl,rfl,by decide +kernel,rfl,by decide +kernel,by decide +kernel⟩
abbrev xr:Stmt:=top 7
theorem zf2:z9 ["thing", "bounds"] ["thing", "bounds"] (za xr):=⟨rfl,rfl,rfl,by decide +kernel,rfl,by decide +kernel,by decide +kernel⟩
abbrev xt:Stmt:=top 12
theorem zf3:z9 ["thing"] ["thing"] (za xt):=⟨rfl,rfl,rfl,by decide +kernel,rfl,by decide +kernel,by decide +kernel⟩
abbrev x8:Stmt:=top 13
theorem sc_times_of:z9 ["road", "time", "times", "left", "need", "keep"] ["road", "time"] (za x8):=⟨rfl,rfl,rfl,by decide +kernel,rfl,by decide +kernel,by decide +kernel⟩
abbrev xu:Stmt:=top 14
theorem sc_turned_at:z9 ["road", "time", "number", "left"] ["road", "time"] (za xu):=⟨rfl,rfl,rfl,by decide +kernel,rfl,by decide +kernel,by decide +kernel⟩
abbrev x9:Stmt:=top 15
theorem zhj:z9 ["road"] ["road"] (za x9):=⟨rfl,rfl,rfl,by decide +kernel,rfl,by decide +kernel,by decide +kernel⟩
abbrev xg:Stmt:=top 16
theorem zd1:z9 ["road"] ["road"] (za xg):=⟨rfl,rfl,rfl,by decide +kernel,rfl,by decide +kernel,by decide +kernel⟩
abbrev wk:Stmt:=top 17
theorem sc_vain_of:z9 ["road", "time", "turned"] ["road", "time"] (za wk):=⟨rfl,rfl,rfl,by decide +kernel,rfl,by decide +kernel,by decide +kernel⟩
abbrev wa:Stmt:=top 18
theorem sc_blind_of:z9 ["road", "time", "needs"] ["road", "time"] (za wa):=⟨rfl,rfl,rfl,by decide +kernel,rfl,by decide +kernel,by decide +kernel⟩
abbrev xh:Stmt:=top 19
theorem zd2:z9 ["road", "thing"] ["road", "thing"] (za xh):=⟨rfl,rfl,rfl,by decide +kernel,rfl,by decide +kernel,by decide +kernel⟩
abbrev wl:Stmt:=top 20
theorem zi3:z9 ["road", "order"] ["road", "order"] (za wl):=⟨rfl,rfl,rfl,by decide +kernel,rfl,by decide +kernel,by decide +kernel⟩
abbrev xi:Stmt:=top 21
theorem sc_best_order:z9 ["road", "by_keep"] ["road"] (za xi):=⟨rfl,rfl,rfl,by decide +kernel,rfl,by decide +kernel,by decide +kernel⟩
abbrev xj:Stmt:=top 22
theorem sc_all_orders:z9 ["many", "orders", "place"] ["many"] (za xj):=⟨rfl,rfl,rfl,by decide +kernel,rfl,by decide +kernel,by decide +kernel⟩
abbrev xk:Stmt:=top 23
theorem zd3:z9 ["road", "time"] ["road", "time"] (za xk):=⟨rfl,rfl,rfl,by decide +kernel,rfl,by decide +kernel,by decide +kernel⟩
abbrev yy:Stmt:=top 24
theorem sc_done_by_time:z9 ["need", "askings", "free", "done", "beat", "time", "end"] ["need", "askings"] (za yy):=⟨rfl,rfl,rfl,by decide +kernel,rfl,by decide +kernel,by decide +kernel⟩
abbrev yz:Stmt:=top 25
theorem sc_done_blindly:z9 ["need", "askings", "free", "done", "beat", "time"] ["need", "askings"] (za yz):=⟨rfl,rfl,rfl,by decide +kernel,rfl,by decide +kernel,by decide +kernel⟩
abbrev y0:Stmt:=top 26
theorem sc_vain_askings:z9 ["need", "askings", "late"] ["need", "askings"] (za y0):=⟨rfl,rfl,rfl,by decide +kernel,rfl,by decide +kernel,by decide +kernel⟩
abbrev xl:Stmt:=top 27
theorem sc_entry_good:z9 ["need", "askings", "thing", "free", "beat", "time"] ["need", "askings", "thing", "free"] (za xl):=⟨rfl,rfl,rfl,by decide +kernel,rfl,by decide +kernel,by decide +kernel⟩
abbrev yt:Stmt:=top 28
theorem sc_schedule_good:z9 ["need", "askings", "thing", "taken", "free", "entry"] ["need", "askings", "thing"] (za yt):=⟨rfl,rfl,rfl,by decide +kernel,rfl,by decide +kernel,by decide +kernel⟩
abbrev yu:Stmt:=top 29
theorem sc_longer_by_one:z9 ["need", "askings", "schedule", "taken", "free", "longer", "number", "beat", "time", "begin"] ["need", "askings", "schedule"] (za yu):=⟨rfl,rfl,rfl,by decide +kernel,rfl,by decide +kernel,by decide +kernel⟩
abbrev ym:Stmt:=top 30
theorem sc_soonest_of_each:z9 ["schedules", "soonest", "schedule", "taken"] ["schedules"] (za ym):=⟨rfl,rfl,rfl,by decide +kernel,rfl,by decide +kernel,by decide +kernel⟩
abbrev y3:Stmt:=top 31
theorem sc_schedule_for:z9 ["need", "askings", "best", "schedules", "longer"] ["need", "askings"] (za y3):=⟨rfl,rfl,rfl,by decide +kernel,rfl,by decide +kernel,by decide +kernel⟩
abbrev xa:Stmt:=top 32
theorem zdg:z9 ["need", "askings"] ["need", "askings"] (za xa):=⟨rfl,rfl,rfl,by decide +kernel,rfl,by decide +kernel,by decide +kernel⟩
abbrev y4:Stmt:=top 34
theorem zb9:z9 ["_law_script", "_law_k"] ["_law_script", "_law_k"] (za y4):=⟨rfl,rfl,rfl,by decide +kernel,rfl,by decide +kernel,by decide +kernel⟩
abbrev xv:Stmt:=top 35
theorem sc__law_next:z9 ["_law_seed"] ["_law_seed"] (za xv):=⟨rfl,rfl,rfl,by decide +kernel,rfl,by decide +kernel,by decide +kernel⟩
abbrev xb:Stmt:=top 36
theorem sc__law_pen_of:z9 ["_law_cell", "_law_left"] ["_law_cell"] (za xb):=⟨rfl,rfl,rfl,by decide +kernel,rfl,by decide +kernel,by decide +kernel⟩
abbrev xw:Stmt:=top 37
theorem sc__law_draw:z9 ["_law_pen", "_law_many", "_law_found"] ["_law_pen", "_law_many"] (za xw):=⟨rfl,rfl,rfl,by decide +kernel,rfl,by decide +kernel,by decide +kernel⟩
abbrev xx:Stmt:=top 38
theorem sc__law_road:z9 ["_law_pen", "_law_many", "_law_wide"] ["_law_pen"] (za xx):=⟨rfl,rfl,rfl,by decide +kernel,rfl,by decide +kernel,by decide +kernel⟩
abbrev y6:Stmt:=top 39
theorem sc__law_askings:z9 ["_law_pen", "_law_many", "_law_wide", "_law_time", "_law_need", "_law_beat", "_law_found", "_law_turn"] ["_law_pen"] (za y6):=⟨rfl,rfl,rfl,by decide +kernel,rfl,by decide +kernel,by decide +kernel⟩
abbrev xm:Stmt:=top 40
theorem sc__law_order:z9 ["_law_pen", "_law_many", "_law_left", "_law_found"] ["_law_pen", "_law_many"] (za xm):=⟨rfl,rfl,rfl,by decide +kernel,rfl,by decide +kernel,by decide +kernel⟩
abbrev yn:Stmt:=top 41
theorem sc__law_time_right:z9 ["_law_road_here", "_law_time", "_law_least", "_law_some", "_law_more"] ["_law_road_here", "_law_time"] (za yn):=⟨rfl,rfl,rfl,by decide +kernel,rfl,by decide +kernel,by decide +kernel⟩
abbrev yh:Stmt:=top 42
theorem sc__law_orders_right:z9 ["_law_road_here", "_law_time", "_law_order_here", "_law_other", "_law_back", "_law_best", "_law_least"] ["_law_road_here", "_law_time", "_law_order_here"] (za yh):=⟨rfl,rfl,rfl,by decide +kernel,rfl,by decide +kernel,by decide +kernel⟩
abbrev ye:Stmt:=top 43
theorem sc__law_askings_right:z9 ["_law_need", "_law_askings_here", "_law_told", "_law_blind", "_law_some"] ["_law_need", "_law_askings_here"] (za ye):=⟨rfl,rfl,rfl,by decide +kernel,rfl,by decide +kernel,by decide +kernel⟩
abbrev jj:Stmt:=top 44
theorem sc_law:z9 ["_law_script", "_law_cell", "_law_pen", "_law_road_here", "_law_time", "_law_need", "_law_askings_here"] ["_law_script"] (za jj):=⟨rfl,rfl,rfl,by decide +kernel,rfl,by decide +kernel,by decide +kernel⟩
structure Blt(mg:Str->Option Value):Prop where
 len:mg "len" = none
 range:mg "range" = none
 enumerate:mg "enumerate" = none
 sum:mg "sum" = none
 min:mg "min" = none
 max:mg "max" = none
 isinstance:mg "isinstance" = none
 all:mg "all" = none
 zip:mg "zip" = none
 sorted:mg "sorted" = none
 tupleT:mg "tuple" = none
 intT:mg "int" = none
 listT:mg "list" = none
 boolT:mg "bool" = none
abbrev Cal(P:Program)(w:World)(K:PySem.W.Frag)(mg:Str->Option Value)(base:Heap):=yg P w K mg base
local macro_rules|`(tactic| walk_at "dr")=>`(tactic| dsimp only[↓zoc,↓zkd,↓zdc,↓O.bare,↓O.with,↓zpq,↓znh,↓znk,↓znl,↓znm,↓zs5,↓zs6,↓zno,↓znx,↓zns,↓Ret.w,↓znu,↓znv,↓znw,↓zf1,↓zi0,↓zke,↓zqc,↓zom,↓zck,↓zf0,↓zcl,↓zop,↓dIf,↓zs7,↓zs4,↓znj,↓zjt,↓zpt,↓zif,↓zig,↓zpf,↓zpg,↓dC,↓zjk,↓zph,↓zgu,↓zjl,↓zk7,↓zsd,↓zse,↓dFz,↓dTB,↓onB,↓zsf,↓dOr,↓zsg,↓zsh,↓zm2,↓zm3,↓zsi,↓zsj,↓dOp,↓zh8,↓dUn,↓zsk,↓zsl,↓gII,↓zfi,↓zsn,↓zso,↓zsp,↓zsq,↓gEq,↓gNe,↓zsr,↓zm8,↓zam,↓gIn,↓dCB,↓dCF,↓zst,↓zsu,↓zsv,↓zib,↓gIx,↓zm9,↓zfk,↓dSl,↓zfl,↓zch,↓zfm,↓zjr,↓zfn,↓zs2,↓zil,↓zc1,↓zne,↓zid,↓znf,↓znr,↓dLC,↓zp7,↓qi,↓ztp,↓lcF,↓zgy,↓zeq,↓zie,↓Ret.d,↓zbl,↓x0,↓zgx,↓clr,↓zsb,↓dIs,↓isD,↓zsw,↓zsx,↓zny,↓zit,↓dLR,↓zob,List.map_cons,List.map_nil,List.length_cons,List.length_nil,List.replicate_succ,List.replicate_zero,List.cons_append,List.nil_append,List.append_nil,List.set_cons_zero,List.set_cons_succ,List.getElem?_cons_zero,List.getElem?_cons_succ,Option.join_some,Nat.reduceAdd,Nat.reduceSub,Nat.zero_add,Bool.not_true,Bool.not_false])
local macro_rules|`(tactic| walk_at "ds")=>`(tactic| first|simp only[↓zoc,↓zkd,↓zdc,↓O.bare,↓O.with,↓zpq,↓znh,↓znk,↓znl,↓znm,↓zs5,↓zs6,↓zno,↓znx,↓zns,↓Ret.w,↓znu,↓znv,↓znw,↓zf1,↓zi0,↓zke,↓zqc,↓zom,↓zck,↓zf0,↓zcl,↓zop,↓dIf,↓zs7,↓zs4,↓znj,↓zjt,↓zpt,↓zif,↓zig,↓zpf,↓zpg,↓dC,↓zjk,↓zph,↓zgu,↓zjl,↓zk7,↓zsd,↓zse,↓dFz,↓dTB,↓onB,↓zsf,↓dOr,↓zsg,↓zsh,↓zm2,↓zm3,↓zsi,↓zsj,↓dOp,↓zh8,↓dUn,↓zsk,↓zsl,↓gII,↓zfi,↓zsn,↓zso,↓zsp,↓zsq,↓gEq,↓gNe,↓zsr,↓zm8,↓zam,↓gIn,↓dCB,↓dCF,↓zst,↓zsu,↓zsv,↓zib,↓gIx,↓zm9,↓zfk,↓dSl,↓zfl,↓zch,↓zfm,↓zjr,↓zfn,↓zs2,↓zil,↓zc1,↓zne,↓zid,↓znf,↓znr,↓dLC,↓zp7,↓qi,↓ztp,↓lcF,↓zgy,↓zeq,↓zie,↓Ret.d,↓zbl,↓x0,↓zgx,↓clr,↓zsb,↓dIs,↓isD,↓zsw,↓zsx,↓zny,↓zit,↓dLR,↓zob,List.map_cons,List.map_nil,List.length_cons,List.length_nil,List.replicate_succ,List.replicate_zero,List.cons_append,List.nil_append,List.append_nil,List.set_cons_zero,List.set_cons_succ,List.getElem?_cons_zero,List.getElem?_cons_succ,Option.join_some,Nat.reduceAdd,Nat.reduceSub,Nat.zero_add,Bool.not_true,Bool.not_false,if_true,if_false,reduceIte,decide_eq_true_eq,Bool.not_eq_true',decide_eq_false_iff_not,true_and,and_true,Bool.false_eq_true,Bool.not_eq_eq_eq_not,eq_self,and_self,List.isEmpty_nil,List.isEmpty_cons,reduceCtorEq,sizeLine_eq,Nat.reduceLeDiff,Nat.zero_le]|skip)
section
variable {P:Program}{w:World}{K:PySem.W.Frag}{mg:Str->Option Value}{base:Heap}{f:Addr}{fd:FuncData}
def jk:DSp:=λws Q=>∃(ns:List Int) (k:Int),ws = [.scr ns,.val (.int k)]/\0<=k/\∀v:Int,Q (.val (.int v))
theorem zca(B:Blt mg)(F:Fun K "_law_cell_at" "_law_cell_at" y4 f fd):FnOk P w K mg base CX0 1 f fd ["_law_script", "_law_k"] (yc K jk):=by
 refine F.dok zb9 (λws Q h=>?_) (λcdv A outer s H ws Q E hr h=>?_)
 ·obtain⟨ns,k,rfl,_⟩:=h;rfl
 obtain⟨ns,k,rfl,h0,q⟩:=h;refine⟨_,(zc (xq (yr zk8 (zb 1) (DE.dv (zk9 0 rfl B.len)) (yd _)) (ze (z0 (zna 0 (yf 1) (λ_ _=>rfl)))) yo) (ze (z0 zj))),?_⟩;walk_at "ds"
 split
 ·next c=>
  obtain⟨v,e,_⟩:=zmz (xs:=ns) h0 c;exact⟨v,e,q v⟩
 ·exact q 0
def jb:DSp:=λws Q=>∃k:Int,ws = [.val (.int k)]/\∀v:Int,Q (.val (.int v))
theorem zf4(B:Blt mg)(F:Fun K "_law_next" "_law_next" xv f fd):FnOk P w K mg base CX0 1 f fd ["_law_seed"] (yc K jb):=by
 refine F.dok sc__law_next (λws Q h=>?_) (λcdv A outer s H ws Q E hr h=>?_)
 ·obtain⟨k,rfl,_⟩:=h;rfl
 obtain⟨k,rfl,q⟩:=h;refine⟨_,(zc (yw (i:=0) sc__law_next.nd rfl (Or.inl rfl) (yv zm6 (DE.dv (yv xy (zb 0) (DE.dv zj))) (DE.dv zj))) (ze (z0 (yv zm6 (DE.dv (yv xy (DE.dv (yv xy (DE.dv (yv zm7 (zb 0) (zb 0))) (DE.dv (yv zm7 (DE.dv zj) (zb 0))))) (DE.dv zj))) (DE.dv zj))))),?_⟩;walk_at "ds";have h1:0<=(k+7919) % 2147483647:=Int.emod_nonneg _ (by decide);have h2:(k+7919) % 2147483647<2147483647:=Int.emod_lt_of_pos _ (by decide);exact⟨by decide,.inl ⟨by omega,by omega⟩,.inl ⟨by omega,by omega⟩,by decide,q _⟩
def jt:DSp:=λws Q=>∃k:Int,ws = [.val (.int k)]/\∀a b c:Int,Q (.new [.int a,.int b,.int c])
theorem zdh(B:Blt mg)(F:Fun K "_law_pen_of" "_law_pen_of" xb f fd):FnOk P w K mg base CX0 1 f fd ["_law_cell"] (yc K jt):=by
 refine F.dok sc__law_pen_of (λws Q h=>?_) (λcdv A outer s H ws Q E hr h=>?_)
 ·obtain⟨k,rfl,_⟩:=h;rfl
 obtain⟨k,rfl,q⟩:=h;refine⟨_,(zc (yw (i:=1) sc__law_pen_of.nd rfl (Or.inl rfl) (zy (zen rfl) rfl B.max boot_max (zg (zb 0) (zg (DE.dv (yv zcx (DE.dv zj) (zb 0))) zv)))) (ze (zju (wu (zt (yf 1) (zt (wx zu9 rfl B.intT boot_int (zg (DE.dv (wv zu6 (zb 1) (DE.dv (yv zu5 (DE.dv zj) (DE.dv zj))) (yd _))) zv)) (zt (yv zm6 (zb 1) (DE.dv zj)) yi))))))),?_⟩;walk_at "ds";exact⟨⟨by decide,by decide,by decide⟩,by decide,q _ _ _⟩
def zoq:Sp:=λvs H Q _=>∃k:Int,vs = [.int k]/\∀(v:Int) H',Same H H'->Q (.int v) H'
theorem ztr{k:Nat}{x:Str}{ps:List Str}(C:Cal P w K mg base k x ps (yc K jb)):Cal P w K mg base k x ps zoq:=by
 obtain⟨f,fd,F,r⟩:=C;refine⟨f,fd,F.imp λvs H Q E h=>?_,r⟩;obtain⟨k,rfl,q⟩:=h;exact⟨[.val (.int k)],λr=>∃i:Int,r=.val (.int i),.cons (show Rep K H (.int k) _ from .int) .nil,⟨k,rfl,λv=>⟨v,rfl⟩⟩,λv H' r sm rp ⟨i,e⟩=>by subst e;cases (show Rep K H' (.int i) v from rp);exact q i H' sm⟩
theorem zf5(B:Blt mg)(F:Fun K "_law_draw" "_law_draw" xw f fd)(Cd:Cal P w K mg base 1 "_law_next" ["_law_seed"] (yc K jb)):FnOk P w K mg base CX0 2 f fd ["_law_pen", "_law_many"] (yc K x4):=by
 have C__law_next:=ztr Cd;refine zs8 (F.ok sc__law_draw (λvs H Q E h=>?_) (λcdv A outer s H vs Q E hr h=>?_))
 ·obtain⟨p,m,rfl,_⟩:=h;rfl
 obtain⟨p,m,rfl,hm,hM,⟨a,b,c,hp⟩,q⟩:=h;refine⟨_,(zaz (zuc (zu2 (zri (zjf zqv (zb1 ix_list (pv 0) ve (λ_ _=>rfl)) ve (yd _)) (zo0 (zjf zqw (zb1 ix_list (pv 0) ve (λ_ _=>rfl)) ve (yd _))))) (zaz (zbh (i:=2) sc__law_draw.nd rfl (Or.inl rfl) (zgi zhz (zb1 ix_list (pv 0) ve (λ_ _=>rfl)) (pv 1))) (zaz (zhw (zgi zgs (zb1 ix_list (pv 0) ve (λ_ _=>rfl)) (pv 1)) (zme (pv 0) ve zgo)) (zja (zco (pv 2))))) zo1) (zaz (zhw (zcs C__law_next hr rfl (xz (zgi zmj (zcs C__law_next hr rfl (xz (zb1 ix_list (pv 0) ve (λ_ _=>rfl)) vf)) ve) vf)) (zme (pv 0) ve zgo)) (zja (zco (zgi zhz (zgi zgs (zb1 ix_list (pv 0) ve (λ_ _=>rfl)) ve) (pv 1)))))),?_⟩;have hS:SqL K H p [.int a,.int b,.int c]:=SqL.of hp;refine⟨_,rfl,p,_,_,_,rfl,rfl,hS,rfl,rfl,_,rfl,?_⟩;refine zuv (λc1=>?_) (λc1=>?_)
 ·refine⟨_,rfl,p,_,_,_,rfl,rfl,hS,rfl,_,_,rfl,rfl,_,rfl,?_⟩;refine zuv (λc2=>?_) (λc2=>?_)
  ·refine⟨_,rfl,p,_,_,_,rfl,rfl,hS,rfl,_,rfl,_,_,rfl,rfl,hm,?_⟩;refine⟨_,rfl,p,_,_,_,rfl,rfl,hS,rfl,_,rfl,_,_,rfl,rfl,⟨hm,hM⟩,?_⟩;refine⟨_,rfl,p,_,_,_,rfl,rfl,hp,rfl,?_⟩;exact⟨_,rfl,q _ _ (Int.emod_nonneg _ (by omega)) (Int.emod_lt_of_pos _ hm) ⟨a / m,b,c,zp⟩ But.write⟩
  ·refine⟨_,rfl,p,_,_,_,rfl,rfl,hS,rfl,_,rfl,λv1 H1 s1=>⟨_,_,rfl,rfl,_,rfl,λv2 H2 s2=>⟨_,rfl,p,_,_,_,rfl,rfl,s2 _ _ (s1 _ _ hp),rfl,?_⟩⟩⟩;refine⟨_,rfl,p,_,_,_,rfl,rfl,SqL.of zp,rfl,_,_,rfl,rfl,⟨by decide,by decide⟩,_,rfl,_,_,rfl,rfl,hm,?_⟩;exact q _ _ (Int.emod_nonneg _ (by omega)) (Int.emod_lt_of_pos _ hm) ⟨a,b,v2,zp⟩ ((But.of_same (s1.trans s2)).trans But.write)
 ·refine zwc ?_;refine⟨_,rfl,p,_,_,_,rfl,rfl,hS,rfl,_,rfl,λv1 H1 s1=>⟨_,_,rfl,rfl,_,rfl,λv2 H2 s2=>⟨_,rfl,p,_,_,_,rfl,rfl,s2 _ _ (s1 _ _ hp),rfl,?_⟩⟩⟩;refine⟨_,rfl,p,_,_,_,rfl,rfl,SqL.of zp,rfl,_,_,rfl,rfl,⟨by decide,by decide⟩,_,rfl,_,_,rfl,rfl,hm,?_⟩;exact q _ _ (Int.emod_nonneg _ (by omega)) (Int.emod_lt_of_pos _ hm) ⟨a,b,v2,zp⟩ ((But.of_same (s1.trans s2)).trans But.write)
def zdi:DSp:=λws Q=>∃ns:List Int,ws = [.scr ns]/\ns.length<=63/\Q (.val (.bool true))
theorem atI_end{α:Type}(xs:List α)(x:α):atI (xs ++ [x]) (-1)=some x:=zgn xs x
theorem zi4{a b:Int}(h1:0<=a)(h2:a<=1000000000)(h3:0<=b)(h4:b<=1000000000):CMul a b:=.inl ⟨by omega,by omega⟩
theorem sliceD_take0(xs:List D){n:Int}(h:0<=n):x3 xs none (some n)=xs.take n.toNat:=by
 have:=jp xs n.toNat;rw[Int.toNat_of_nonneg h]at this;exact this
def pD(r:Int×Int):D:=.tuple [.int r.1,.int r.2]
def whB:D->Bool
 |.int _=>true
 |_=>false
def inB(lo hi:Int):D->Bool
 |.int i=>decide (lo<=i/\i<=hi)
 |_=>false
def qo:DSp:=λws Q=>∃d:D,ws = [.val d]/\Q (.val (.bool (whB d)))
theorem zhk(B:Blt mg)(F:Fun K "is_whole" "is_whole" x5 f fd):FnOk P w K mg base CX0 1 f fd ["thing"] (yc K qo):=by
 refine F.dok zhh (λws Q h=>?_) (λcdv A outer s H ws Q E hr h=>?_)
 ·obtain⟨d,rfl,_⟩:=h;rfl
 obtain⟨d,rfl,q⟩:=h;refine⟨_,(ze (z0 (zcw (zan (n := "int") zva rfl B.isinstance boot_isinstance (zb 0) rfl B.intT boot_int) (zcv (zsm (zan (n := "bool") zsy rfl B.isinstance boot_isinstance (zb 0) rfl B.boolT boot_bool)))))),?_⟩;walk_at "ds"
 cases d <;> exact q
def ju:DSp:=λws Q=>∃(d:D) (lo hi:Int),ws = [.val d,.val (.int lo),.val (.int hi)]/\Q (.val (.bool (inB lo hi d)))
theorem zhl(B:Blt mg)(F:Fun K "whole_in" "whole_in" x6 f fd)(C_is_whole:Cal P w K mg base 1 "is_whole" ["thing"] (yc K qo)):FnOk P w K mg base CX0 2 f fd ["thing", "least", "most"] (yc K ju):=by
 refine F.dok zhi (λws Q h=>?_) (λcdv A outer s H ws Q E hr h=>?_)
 ·obtain⟨d,lo,hi,rfl,_⟩:=h;rfl
 obtain⟨d,lo,hi,rfl,q⟩:=h;refine⟨_,(ze (z0 (zcw (zh C_is_whole hr rfl (zi 0 zm)) (zcv (zm5 zfj zfj (zb 1) (zb 0) (zb 2)))))),?_⟩;walk_at "ds";refine⟨d,rfl,?_⟩
 cases d with
 |int i=>
  simp only[whB];walk_at "ds"
  split
  ·next c=>simpa[inB,c]using q
  ·next c=>simpa[inB,c]using q
 |_=>simp only[whB];walk_at "ds";exact q
abbrev Sc:=List (Nat×Int)
def wj(S:Sc):List Nat:=S.map (·.1)
def fre(c:Int)(S:Sc):Int:=match S.getLast? with
 |some p=>p.2+c
 |none=>0
theorem vi(c:Int)(S:Sc)(p:Nat×Int):fre c (S ++ [p])=p.2+c:=by
 unfold fre;rw[List.getLast?_append];rfl
theorem ki(S:Sc)(p:Nat×Int):wj (S ++ [p])=wj S ++ [p.1]:=by simp[wj]
inductive Okk(c:Int)(as:List (Int×Int)):Sc->Prop
 |nil:Okk c as []
 |snoc {S:Sc}{i:Nat}{b:Int}{r:Int×Int} (h:Okk c as S) (e:as[i]?=some r) (n:i∉wj S) (l:max r.1 (fre c S)<=b) (m:b+c<=r.1+r.2):Okk c as (S ++ [(i,b)])
inductive Gdd(c:Int)(as:List (Int×Int)):Sc->Prop
 |nil:Gdd c as []
 |snoc {S:Sc}{i:Nat}{b:Int}{r:Int×Int} (h:Gdd c as S) (e:as[i]?=some r) (n:i∉wj S) (l:b=max r.1 (fre c S)) (m:b+c<=r.1+r.2):Gdd c as (S ++ [(i,b)])
theorem Gdd.ok{c:Int}{as:List (Int×Int)}{S:Sc}(h:Gdd c as S):Okk c as S:=by
 induction h with
 |nil=>exact .nil
 |snoc h e n l m ih=>exact .snoc ih e n (by omega) m
theorem zqf{α:Type}{S T:List α}{a b:α}(h:S ++ [a]=T ++ [b]):S=T/\a=b:=by
 have:=List.append_inj' h rfl;exact⟨this.1,by simpa using this.2⟩
theorem Okk.inv{c:Int}{as:List (Int×Int)}{T:Sc}{p:Nat×Int}(h:Okk c as (T ++ [p])):Okk c as T/\∃r,as[p.1]?=some r/\p.1∉wj T/\max r.1 (fre c T)<=p.2/\p.2+c<=r.1+r.2:=by
 generalize e:T ++ [p]=U at h
 cases h with
 |nil=>simp at e
 |snoc h e1 n l m=>
  obtain⟨rfl,rfl⟩:=zqf e;exact⟨h,_,e1,n,l,m⟩
theorem Okk.lt{c:Int}{as:List (Int×Int)}{S:Sc}(h:Okk c as S):∀i∈wj S,i<as.length:=by
 induction h with
 |nil=>intro i hi;cases hi
 |@snoc S i b r h e n l m ih=>
  intro j hj;rw[ki]at hj;rcases List.mem_append.mp hj with hj|hj
  ·exact ih j hj
  ·cases List.mem_singleton.mp hj;exact(List.getElem?_eq_some_iff.mp e).1
theorem Okk.nd{c:Int}{as:List (Int×Int)}{S:Sc}(h:Okk c as S):(wj S).Nodup:=by
 induction h with
 |nil=>exact List.nodup_nil
 |@snoc S i b r h e n l m ih=>
  rw[ki,List.nodup_append];refine⟨ih,List.nodup_cons.mpr ⟨λz=>(nomatch z),List.nodup_nil⟩,λx hx y hy=>?_⟩
  cases List.mem_singleton.mp hy;intro z;have z:x=i:=z;subst z;exact n hx
theorem zbb:∀{ms ns:List Nat},ms.Nodup->(∀x∈ms,x∈ns)->ms.length<=ns.length
 |[],ns,_,_=>Nat.zero_le _
 |x::ms,ns,nd,h=>by
  obtain⟨h1,h2⟩:=List.nodup_cons.mp nd;have hx:=h x List.mem_cons_self;have:=zbb (ms:=ms) (ns:=ns.erase x) h2 λy hy=>(List.mem_erase_of_ne λz=>h1 (by rw[<-z];exact hy)).mpr (h y (List.mem_cons_of_mem _ hy));rw[List.length_erase_of_mem hx]at this;have:=List.length_pos_of_mem hx;rw[List.length_cons];omega
theorem Okk.len{c:Int}{as:List (Int×Int)}{S:Sc}(h:Okk c as S):S.length<=as.length:=by
 have:=zbb (ns:=List.range as.length) h.nd λx hx=>List.mem_range.mpr (h.lt x hx);rw[List.length_range]at this;simpa[wj]using this
def cnd(c:Int)(S:Sc)(i:Nat)(r:Int×Int):Prop:=i∉wj S/\max r.1 (fre c S)+c<=r.1+r.2
instance (c:Int) (S:Sc) (i:Nat) (r:Int×Int):Decidable (cnd c S i r):=by unfold cnd;infer_instance
def lbo(c:Int)(S:Sc):Nat->List (Int×Int)->List Sc
 |_,[]=>[]
 |i,r::z=>(if cnd c S i r then [S ++ [(i,max r.1 (fre c S))]] else [])++lbo c S (i+1) z
theorem zhm(c:Int)(S:Sc)(r:Int×Int):∀(p:List (Int×Int)) (i:Nat),lbo c S i (p ++ [r])=lbo c S i p++(if cnd c S (i+p.length) r then [S ++ [(i+p.length,max r.1 (fre c S))]] else [])
 |[],i=>by simp[lbo]
 |q::p,i=>by
  rw[List.cons_append,lbo,lbo,zhm c S r p (i+1),List.append_assoc,List.length_cons,show i+1+p.length=i+(p.length+1) by omega]
theorem mem_lbo{c:Int}{S X:Sc}:∀{z:List (Int×Int)}{i:Nat},X∈lbo c S i z↔∃j r,z[j]?=some r/\cnd c S (i+j) r/\X=S ++ [(i+j,max r.1 (fre c S))]
 |[],i=>by simp[lbo]
 |q::z,i=>by
  rw[lbo,List.mem_append,mem_lbo (z:=z)];constructor
  ·rintro (h |⟨j,r,h1,h2,h3⟩)
   ·split at h
    ·next c1=>exact⟨0,q,rfl,c1,by simpa using h⟩
    ·cases h
   ·exact⟨j+1,r,by simpa using h1,by rw[show i+(j+1)=i+1+j by omega];exact h2,by rw[show i+(j+1)=i+1+j by omega];exact h3⟩
  ·rintro ⟨j,r,h1,h2,h3⟩
   cases j with
   |zero=>
    have h1:q=r:=by simpa using h1
    subst h1;left;rw[if_pos (by simpa using h2)];simpa using h3
   |succ j=>exact .inr ⟨j,r,by simpa using h1,by rw[show i+1+j=i+(j+1) by omega];exact h2,by rw[show i+1+j=i+(j+1) by omega];exact h3⟩
theorem zdj{c:Int}{S:Sc}:∀(z:List (Int×Int)) (i:Nat),∃J:List Nat,J.length=(lbo c S i z).length/\J.Nodup/\∀j∈J,i<=j/\j<i+z.length/\j∉wj S
 |[],i=>⟨[],rfl,List.nodup_nil,λj hj=>nomatch hj⟩
 |q::z,i=>by
  obtain⟨J,h1,h2,h3⟩:=zdj (c:=c) (S:=S) z (i+1);rw[lbo]
  by_cases k:cnd c S i q
  ·rw[if_pos k];refine⟨i::J,by simp[h1,Nat.add_comm],List.nodup_cons.mpr ⟨λhm=>by have:=h3 i hm;omega,h2⟩,λj hj=>?_⟩;rw[List.length_cons];rcases List.mem_cons.mp hj with rfl|hj
   ·exact⟨Nat.le_refl _,by omega,k.1⟩
   ·have:=h3 j hj;exact⟨by omega,by omega,this.2.2⟩
  ·rw[if_neg k];refine⟨J,h1,h2,λj hj=>?_⟩;rw[List.length_cons];have:=h3 j hj;exact⟨by omega,by omega,this.2.2⟩
theorem zqg{c:Int}{as:List (Int×Int)}{S:Sc}(h:Okk c as S):(lbo c S 0 as).length+S.length<=as.length:=by
 obtain⟨J,h1,h2,h3⟩:=zdj (c:=c) (S:=S) as 0;have:=zbb (ms:=J++wj S) (ns:=List.range as.length) (List.nodup_append.mpr ⟨h2,h.nd,λx hx y hy e=>(h3 x hx).2.2 (e ▸ hy)⟩) λx hx=>List.mem_range.mpr (by
  rcases List.mem_append.mp hx with hx|hx
  ·have:=h3 x hx;omega
  ·exact h.lt x hx)
 rw[List.length_range,List.length_append,h1]at this;simpa[wj]using this
structure Ly(c:Int)(as:List (Int×Int))(k:Nat)(L:List Sc):Prop where
 g:∀S∈L,Gdd c as S/\S.length=k
 d:∀T,Okk c as T->T.length=k->∃S∈L,(wj S).Perm (wj T)/\fre c S<=fre c T
structure Sn(c:Int)(L R:List Sc):Prop where
 m:∀S∈R,S∈L
 d:∀S∈L,∃T∈R,(wj T).Perm (wj S)/\fre c T<=fre c S
 l:R.length<=L.length
theorem zqh(c:Int)(as:List (Int×Int)):Ly c as 0 [[]]:=by
 refine⟨λS hS=>?_,λT h e=>?_⟩
 ·cases List.mem_singleton.mp hS;exact⟨.nil,rfl⟩
 ·rw[List.length_eq_zero_iff.mp e];exact⟨[],List.mem_cons_self,List.Perm.refl _,Int.le_refl _⟩
theorem zqi{c:Int}{as:List (Int×Int)}{k:Nat}{L R:List Sc}(h:Ly c as k L)(s:Sn c (L.flatMap λS=>lbo c S 0 as) R):Ly c as (k+1) R:=by
 refine⟨λX hX=>?_,λT hT e=>?_⟩
 ·obtain⟨S,hS,hm⟩:=List.mem_flatMap.mp (s.m X hX);obtain⟨j,r,e1,e2,rfl⟩:=mem_lbo.mp hm;obtain⟨g,l⟩:=h.g S hS;rw[Nat.zero_add]at e2 ⊢;exact⟨.snoc g e1 e2.1 rfl e2.2,by rw[List.length_append,l];rfl⟩
 ·rcases List.eq_nil_or_concat T with rfl |⟨T,p,rfl⟩
  ·cases e
  ·rw[List.concat_eq_append]at hT e ⊢;obtain⟨hT,r,e1,n1,l1,m1⟩:=hT.inv;obtain⟨S,hS,pm,le⟩:=h.d T hT (by rw[List.length_append,List.length_singleton]at e;omega);have cn:cnd c S (0+p.1) r:=⟨by rw[Nat.zero_add];exact λz=>n1 (pm.mem_iff.mp z),by omega⟩
   obtain⟨R',hR,pm2,le2⟩:=s.d (S ++ [(0+p.1,max r.1 (fre c S))]) (List.mem_flatMap.mpr ⟨S,hS,mem_lbo.mpr ⟨p.1,r,e1,cn,rfl⟩⟩);refine⟨R',hR,pm2.trans ?_,?_⟩
   ·rw[ki,ki,Nat.zero_add];exact pm.append (List.Perm.refl _)
   ·rw[vi]at le2 ⊢;simp only[]at le2;omega
theorem Okk.pre{c:Int}{as:List (Int×Int)}{T:Sc}(h:Okk c as T):∀k,k<=T.length->∃U,Okk c as U/\U.length=k:=by
 induction h with
 |nil=>intro k hk;exact⟨[],.nil,by simp at hk;simp[hk]⟩
 |@snoc S i b r h e n l m ih=>
  intro k hk;rw[List.length_append,List.length_singleton]at hk
  by_cases z:k=S.length+1
  ·exact⟨_,.snoc h e n l m,by rw[List.length_append,List.length_singleton,z]⟩
  ·exact ih k (by omega)
theorem zqj{c:Int}{as:List (Int×Int)}{k:Nat}(h:Ly c as (k+1) []){T:Sc}(hT:Okk c as T):T.length<=k:=by
 by_cases z:T.length<=k
 ·exact z
 ·obtain⟨U,hU,e⟩:=hT.pre (k+1) (by omega);obtain⟨S,hS,_⟩:=h.d U hU e
  cases hS
def pb:Nat->Nat
 |0=>1
 |k+1=>pb k *(8-k)
theorem zvp:∀k,pb k<=40320
 |0=>by decide
 |1=>by decide
 |2=>by decide
 |3=>by decide
 |4=>by decide
 |5=>by decide
 |6=>by decide
 |7=>by decide
 |8=>by decide
 |k+9=>by
  have:pb (k+9)=0:=by
   induction k with
   |zero=>rfl
   |succ k ih=>show pb (k+9) * _=0;rw[ih,Nat.zero_mul]
  omega
end
section
variable {P:Program}{w:World}{K:PySem.W.Frag}{mg:Str->Option Value}{base:Heap}{f:Addr}{fd:FuncData}
def qD(p:Nat×Int):D:=.tuple [.int (p.1:Int),.int p.2]
def scD(S:Sc):D:=.tuple (S.map qD)
def kj:DSp:=λws Q=>∃(c:Int) (as:List (Int×Int)) (S:Sc),ws = [.val (.int c),.val (.tuple (as.map pD)),.val (scD S)]/\Okk c as S/\as.length<=8/\Q (.new ((lbo c S 0 as).map scD))
theorem zbc(n:Int)(ns:List Int):inD (.int n) (ns.map PyData.int)=decide (n∈ns):=by
 unfold inD;rw[List.any_map,Bool.eq_iff_iff,List.any_eq_true,decide_eq_true_eq];constructor
 ·rintro ⟨x,hx,e⟩;simp only[Function.comp,zjx,decide_eq_true_eq]at e;rw[<-e];exact hx
 ·intro h;exact⟨n,h,by simp only[Function.comp,zjx,decide_eq_true_eq]⟩
theorem zbv(S:Sc)(i:Nat):((i:Int)∈S.map λp=>(p.1:Int))↔i∈wj S:=by
 unfold wj;rw[List.mem_map,List.mem_map];constructor
 ·rintro ⟨p,hp,e⟩;exact⟨p,hp,by omega⟩
 ·rintro ⟨p,hp,rfl⟩;exact⟨p,hp,rfl⟩
theorem zbw(B:Blt mg)(F:Fun K "longer_by_one" "longer_by_one" yu f fd):FnOk P w K mg base CX0 1 f fd ["need", "askings", "schedule"] (yc K kj):=by
 refine F.dok sc_longer_by_one (λws Q h=>?_) (λcdv A outer s H ws Q E hr h=>?_)
 ·obtain⟨c,as,S,rfl,_⟩:=h;rfl
 obtain⟨c,as,S,rfl,o,hl,q⟩:=h;have ol:=o.len;refine⟨_,(zc (zg3 (i:=3) sc_longer_by_one.nd rfl (Or.inl rfl) rfl (N':=["number", "begin"]) (capt:=[]) (k:=2) (js:=[]) ⟨rfl,by decide,rfl,by decide,.nil,rfl,.nil,rfl,by decide⟩ (wt (zb 2)) (λ_ _ _ _=>(xn (n:=2) rfl (zq (zo (i:=0) (show List.Nodup (["number", "begin"]:List Str) by decide +kernel) rfl (Or.inl rfl) (Or.inr rfl)) (zq (zo (i:=1) (show List.Nodup (["number", "begin"]:List Str) by decide +kernel) rfl (Or.inl rfl) (Or.inr rfl)) y8)))) (λ_ _ _ _=>xf) (λ_ _ _ _=>(yf 0))) (zc (yw (i:=4) sc_longer_by_one.nd rfl (Or.inl rfl) (zm4 (wn (zb 2)) (yv xy (DE.dv (wm (DE.dv (wm (zb 2) (zbj zj) (λ_ _=>rfl))) zj (λ_ _=>rfl))) (zb 0)) zj)) (zc (kx (i:=5) sc_longer_by_one.nd rfl (Or.inl rfl) (wu yi)) (zc (qx PassesOwn.never rfl (zc2 rfl B.enumerate (zt (yf 1) yi)) (xn (n:=2) rfl (zq (zo (i:=6) sc_longer_by_one.nd rfl (Or.inl rfl)) (zq (xn (n:=2) rfl (zq (zo (i:=7) sc_longer_by_one.nd rfl (Or.inl rfl)) (zq (zo (i:=8) sc_longer_by_one.nd rfl (Or.inl rfl)) y8))) y8))) (zc (yw (i:=9) sc_longer_by_one.nd rfl (Or.inl rfl) (zy (zen rfl) rfl B.max boot_max (zg (zb 7) (zg (zb 4) zv)))) (ze (xq (DWt.dt (zm1 (yr (zjo hr) (zb 6) (zb 3) rfl) (zjm (yr zfj (DE.dv (yv xy (zb 9) (zb 0))) (DE.dv (yv xy (zb 7) (zb 8))) (yd _))))) (ze (vg 5 (yv xy (zb 2) (DE.dv (vk (zt (vk (zt (yf 6) (zt (yf 9) yi))) yi zu1)))))) yo)))) (ze (zcj 5)))))),?_⟩;refine ja (λσ=>σ = [some (.val (.int c)),some (.val (.tuple (as.map pD))),some (.val (scD S)),some (.val (.list ((S.map λp=>(p.1:Int)).map PyData.int))),none,none,none,none,none,none]) (λN hN=>?_) ?_
 ·unfold scD;walk_at "ds";rw[List.length_map];refine⟨by omega,wb qD (λp=>.int (p.1:Int)) (λp _ k hk=>?_) ?_⟩
  ·simp only[qD];walk_at "ds";exact hk
  ·have e:(S.map λp=>PyData.int (p.1:Int))=(S.map λp=>(p.1:Int)).map PyData.int:=by rw[List.map_map];rfl
   rw[e];exact hN _ rfl
 rintro σ rfl;refine ja (λσ=>σ = [some (.val (.int c)),some (.val (.tuple (as.map pD))),some (.val (scD S)),some (.val (.list ((S.map λp=>(p.1:Int)).map PyData.int))),some (.val (.int (fre c S))),none,none,none,none,none]) (λN hN=>?_) ?_
 ·unfold scD at hN ⊢;walk_at "ds";rcases List.eq_nil_or_concat S with rfl |⟨T,p,rfl⟩
  ·simp only[List.map_nil,List.isEmpty_nil]at hN ⊢;walk_at "ds";exact hN _ rfl
  ·rw[List.concat_eq_append]at hN ⊢;rw[vi]at hN;rw[if_pos (by simp)];simp only[List.map_append,List.map_cons,List.map_nil]at hN ⊢;refine⟨_,atI_end _ _,?_⟩;simp only[qD]at hN ⊢;walk_at "ds";refine⟨_,j3 _ _ _,?_⟩;walk_at "ds";exact hN _ rfl
 rintro σ rfl;walk_at "ds";refine wg (λds σ=>∃(p z:List (Int×Int)) (u6 u7 u8 u9:Option W),ds=vx p.length (z.map pD)/\p++z=as/\σ = [some (.val (.int c)),some (.val (.tuple (as.map pD))),some (.val (scD S)),some (.val (.list ((S.map λp=>(p.1:Int)).map PyData.int))),some (.val (.int (fre c S))),some (.own (.lst ((lbo c S 0 p).map scD))),u6,u7,u8,u9]) ?_ ?_ ⟨[],as,none,none,none,none,rfl,rfl,rfl⟩
 ·rintro d ds σ N ⟨p,z,u6,u7,u8,u9,e,ez,rfl⟩ k
  cases z with
  |nil=>cases e
  |cons r z=>
   cases e;have lp:p.length<8:=by rw[<-ez]at hl;simp at hl;omega
   have ll:(lbo c S 0 p).length<=8:=by
    obtain⟨J,h1,h2,h3⟩:=zdj (c:=c) (S:=S) p 0;have:=zbb (ms:=J) (ns:=List.range p.length) h2 λx hx=>List.mem_range.mpr (by have:=h3 x hx;omega);rw[List.length_range]at this;omega
   have ap:(p ++ [r])++z=as:=by rw[List.append_assoc];exact ez
   have ln:=zhm c S r p 0;rw[Nat.zero_add]at ln;simp only[pD];walk_at "ds";refine⟨(Sh.intB (by omega) (by omega)).lay (by decide),wo _,?_⟩;rw[zbc]
   by_cases n1:p.length∈wj S
   ·rw[decide_eq_true ((zbv S _).mpr n1),if_neg (by decide)];rw[if_neg (λz:cnd c S p.length r=>z.1 n1),List.append_nil]at ln;exact k _ ⟨p ++ [r],z,_,_,_,_,(by rw[List.length_append];rfl),ap,(by rw[ln])⟩
   ·rw[decide_eq_false λz=>n1 ((zbv S _).mp z),if_pos rfl]
    by_cases c2:max r.1 (fre c S)+c<=r.1+r.2
    ·rw[if_pos c2];rw[if_pos (show cnd c S p.length r from⟨n1,c2⟩)]at ln
     have key:(lbo c S 0 p).map scD ++ [PyData.tuple (S.map qD ++ [PyData.tuple [.int (p.length:Int),.int (max r.1 (fre c S))]])]=(lbo c S 0 (p ++ [r])).map scD:=by
      rw[ln,List.map_append,List.map_cons,List.map_nil];unfold scD;rw[List.map_append];rfl
     refine⟨by rw[List.length_map,List.length_singleton];omega,by rw[List.length_map];omega,?_⟩;exact k _ ⟨p ++ [r],z,_,_,_,_,(by rw[List.length_append];rfl),ap,(by rw[<-key])⟩
    ·rw[if_neg c2];rw[if_neg (λz:cnd c S p.length r=>c2 z.2),List.append_nil]at ln;exact k _ ⟨p ++ [r],z,_,_,_,_,(by rw[List.length_append];rfl),ap,(by rw[ln])⟩
 ·rintro σ ⟨p,z,u6,u7,u8,u9,e,ez,rfl⟩
  cases z with
  |cons r z=>cases e
  |nil=>
   rw[List.append_nil]at ez;subst ez;walk_at "ds";exact q
end
section
variable {P:Program}{w:World}{K:PySem.W.Frag}{mg:Str->Option Value}{base:Heap}{f:Addr}{fd:FuncData}
def ky(S:Sc):List Key:=(ji (S.map λp=>(p.1:Int))).map Sum.inl
theorem zqk{S T:Sc}(h:ky S=ky T):(wj S).Perm (wj T):=by
 have e:ji (S.map λp=>(p.1:Int))=ji (T.map λp=>(p.1:Int)):=(List.map_inj_right λx y h=>Sum.inl.inj h).mp h;have p:(S.map λp=>(p.1:Int)).Perm (T.map λp=>(p.1:Int)):=(zap _).symm.trans (e ▸ zap _);have q:=p.map Int.toNat;rw[List.map_map,List.map_map]at q;exact q
theorem zts{c:Int}{S T:Sc}(hS:S ≠ [])(hT:T ≠ [])(h:fre 0 S<=fre 0 T):fre c S<=fre c T:=by
 rcases List.eq_nil_or_concat S with e |⟨S',p,rfl⟩
 ·exact absurd e hS
 ·rcases List.eq_nil_or_concat T with e |⟨T',r,rfl⟩
  ·exact absurd e hT
  ·rw[List.concat_eq_append,List.concat_eq_append]at h ⊢;rw[vi,vi]at h ⊢;omega
structure Sq(P R:List Sc):Prop where
 m:∀S∈R,S∈P
 d:∀S∈P,∃T∈R,ky T=ky S/\fre 0 T<=fre 0 S
 l:R.length<=P.length
 u:(R.map ky).Nodup
theorem Sq.sn{P R:List Sc}(h:Sq P R)(ne:∀S∈P,S ≠ [])(c:Int):Sn c P R:=⟨h.m,λS hS=>by
 obtain⟨T,hT,e,l⟩:=h.d S hS;exact⟨T,hT,zqk e,zts (ne T (h.m T hT)) (ne S hS) l⟩,h.l⟩
theorem ztt{P R:List Sc}{S:Sc}(h:Sq P R)(n:ky S∉R.map ky):Sq (P ++ [S]) (R ++ [S]):=by
 refine⟨λX hX=>?_,λX hX=>?_,by simp[h.l],?_⟩
 ·rcases List.mem_append.mp hX with hX|hX
  ·exact List.mem_append_left _ (h.m X hX)
  ·exact List.mem_append_right _ hX
 ·rcases List.mem_append.mp hX with hX|hX
  ·obtain⟨T,hT,r⟩:=h.d X hX;exact⟨T,List.mem_append_left _ hT,r⟩
  ·cases List.mem_singleton.mp hX;exact⟨S,List.mem_append_right _ List.mem_cons_self,rfl,Int.le_refl _⟩
 ·rw[List.map_append,List.nodup_append];refine⟨h.u,List.nodup_cons.mpr ⟨λz=>(nomatch z),List.nodup_nil⟩,λx hx y hy e=>?_⟩;rw[List.map_cons,List.map_nil]at hy;rw[e,List.mem_singleton.mp hy]at hx;exact n hx
theorem ztu{P R:List Sc}{S T:Sc}(h:Sq P R)(hT:T∈R)(e:ky T=ky S)(l:fre 0 T<=fre 0 S):Sq (P ++ [S]) R:=by
 refine⟨λX hX=>List.mem_append_left _ (h.m X hX),λX hX=>?_,Nat.le_trans h.l (by simp),h.u⟩;rcases List.mem_append.mp hX with hX|hX
 ·exact h.d X hX
 ·cases List.mem_singleton.mp hX;exact⟨T,hT,e,l⟩
def swp(S R:Sc):Sc:=if ky R=ky S then S else R
theorem zdk(S R:Sc):ky (swp S R)=ky R:=by
 unfold swp
 split
 ·next e=>exact e.symm
 ·rfl
theorem zql{R:List Sc}(u:(R.map ky).Nodup){S T:Sc}(hS:S∈R)(hT:T∈R)(e:ky S=ky T):S=T:=by
 induction R with
 |nil=>cases hS
 |cons x R ih=>
  rw[List.map_cons,List.nodup_cons]at u;rcases List.mem_cons.mp hS with h1|h1
  ·rcases List.mem_cons.mp hT with h2|h2
   ·exact h1.trans h2.symm
   ·subst h1;exact absurd (List.mem_map.mpr ⟨T,h2,e.symm⟩) u.1
  ·rcases List.mem_cons.mp hT with h2|h2
   ·subst h2;exact absurd (List.mem_map.mpr ⟨S,h1,e⟩) u.1
   ·exact ih u.2 h1 h2
theorem ztv{P R:List Sc}{S T:Sc}(h:Sq P R)(hT:T∈R)(e:ky T=ky S)(l:fre 0 S<fre 0 T):Sq (P ++ [S]) (R.map (swp S)):=by
 refine⟨λX hX=>?_,λX hX=>?_,by rw[List.length_map];exact Nat.le_trans h.l (by simp),?_⟩
 ·obtain⟨Y,hY,rfl⟩:=List.mem_map.mp hX;unfold swp
  split
  ·exact List.mem_append_right _ List.mem_cons_self
  ·exact List.mem_append_left _ (h.m Y hY)
 ·rcases List.mem_append.mp hX with hX|hX
  ·obtain⟨Y,hY,e2,l2⟩:=h.d X hX;refine⟨swp S Y,List.mem_map_of_mem hY,by rw[zdk];exact e2,?_⟩;unfold swp
   split
   ·next e3=>
    have:=zql h.u hY hT (e3.trans e.symm);subst this;omega
   ·exact l2
  ·cases List.mem_singleton.mp hX;refine⟨swp S T,List.mem_map_of_mem hT,by rw[zdk];exact e,?_⟩;unfold swp;rw[if_pos e];exact Int.le_refl _
 ·rw[List.map_map,show ky ∘ swp S=ky from funext λx=>zdk S x];exact h.u
def kvR(R:List Sc):List (List Key×D):=R.map λS=>(ky S,scD S)
theorem zkg(k:List Key):∀R:List Sc,(∃T∈R,ky T=k/\zas (kvR R) k=some (scD T))\/(k∉R.map ky/\zas (kvR R) k=none)
 |[]=>.inr ⟨λh=>(nomatch h),rfl⟩
 |S::R=>by
  have g:zas (kvR (S::R)) k=if ky S=k then some (scD S) else zas (kvR R) k:=by
   unfold zas kvR;rw[List.map_cons,List.find?_cons]
   by_cases c:ky S=k
   ·rw[if_pos c,decide_eq_true c];rfl
   ·rw[if_neg c,decide_eq_false c]
  by_cases c:ky S=k
  ·exact .inl ⟨S,List.mem_cons_self,c,by rw[g,if_pos c]⟩
  ·rw[if_neg c]at g;rcases zkg k R with⟨T,hT,e,h⟩ |⟨n,h⟩
   ·exact .inl ⟨T,List.mem_cons_of_mem _ hT,e,g.trans h⟩
   ·refine .inr ⟨λh=>?_,g.trans h⟩;rw[List.map_cons]at h;rcases List.mem_cons.mp h with h|h
    ·exact c h.symm
    ·exact n h
theorem ztw{k:List Key}{R:List Sc}(n:k∉R.map ky):((kvR R).any λkv=>decide (kv.1=k))=false:=by
 unfold kvR;rw[List.any_map,List.any_eq_false];intro S hS z;exact n (List.mem_map.mpr ⟨S,hS,of_decide_eq_true z⟩)
theorem zqm{k:List Key}{R:List Sc}(n:k∈R.map ky):((kvR R).any λkv=>decide (kv.1=k))=true:=by
 unfold kvR;obtain⟨S,hS,e⟩:=List.mem_map.mp n;rw[List.any_map,List.any_eq_true];exact⟨S,hS,decide_eq_true e⟩
theorem zqn{S:Sc}{R:List Sc}(n:ky S∉R.map ky):zd0 (kvR R) (ky S) (scD S)=kvR (R ++ [S]):=by
 unfold zd0;rw[ztw n,if_neg (by decide)];unfold kvR;rw[List.map_append];rfl
theorem zqo{S:Sc}{R:List Sc}(n:ky S∈R.map ky):zd0 (kvR R) (ky S) (scD S)=kvR (R.map (swp S)):=by
 unfold zd0;rw[zqm n,if_pos rfl];unfold kvR;rw[List.map_map,List.map_map];refine List.map_congr_left λT _=>?_;simp only[Function.comp]
 by_cases c:ky T=ky S
 ·rw[if_pos c,zdk];unfold swp;rw[if_pos c]
 ·rw[if_neg c,zdk];unfold swp;rw[if_neg c]
theorem zvq(S:Sc):(ji (S.map λp=>(p.1:Int))).map PyData.int=(ky S).map kD:=by
 unfold ky;rw[List.map_map];rfl
def qf:DSp:=λws Q=>∃Ls:List Sc,ws = [.val (.list (Ls.map scD))]/\(∀S∈Ls,S ≠ []/\S.length<=8)/\Ls.length<=100000/\∀Rs,(∀c,Sn c Ls Rs)->Q (.new (Rs.map scD))
theorem zau(B:Blt mg)(F:Fun K "soonest_of_each" "soonest_of_each" ym f fd):FnOk P w K mg base CX0 1 f fd ["schedules"] (yc K qf):=by
 refine F.dok sc_soonest_of_each (λws Q h=>?_) (λcdv A outer s H ws Q E hr h=>?_)
 ·obtain⟨Ls,rfl,_⟩:=h;rfl
 obtain⟨Ls,e0,hL,hl,q⟩:=h;subst e0;refine⟨_,(zc (zok (i:=1) sc_soonest_of_each.nd rfl (Or.inl rfl)) (zc (qx PassesOwn.never rfl (zao (yf 0)) (zo (i:=2) sc_soonest_of_each.nd rfl (Or.inl rfl)) (zc (zlu (j:=3) sc_soonest_of_each.nd rfl (Or.inl rfl) rfl B.tupleT (zg (DE.dv (DF.de (zcz zfw rfl B.sorted boot_sorted (zg (DE.dv (DF.de (qe rfl (N':=["number", "begin"]) (capt:=[]) (k:=2) (js:=[]) ⟨rfl,by decide,rfl,by decide,.nil,rfl,.nil,rfl,by decide⟩ (wt (zb 2)) (λ_ _ _ _=>(xn (n:=2) rfl (zq (zo (i:=0) (show List.Nodup (["number", "begin"]:List Str) by decide +kernel) rfl (Or.inl rfl) (Or.inr rfl)) (zq (zo (i:=1) (show List.Nodup (["number", "begin"]:List Str) by decide +kernel) rfl (Or.inl rfl) (Or.inr rfl)) y8)))) (λ_ _ _ _=>xf) (λ_ _ _ _=>(yf 0))))) zv)))) zv)) (ze (xq (DWt.dt (qk (zlv 1 3 hr) (vm (yr zk8 (DE.dv (wm (DE.dv (wm (zb 2) (zbj zj) (λ_ _=>rfl))) zj (λ_ _=>rfl))) (DE.dv (wm (DE.dv (wm (DE.dv (zqb 1 3 hr)) (zbj zj) (λ_ _=>rfl))) zj (λ_ _=>rfl))) (yd _))))) (ze (zqd 1 3 hr (yf 2))) yo)))) (ze (zju (zlx 1 rfl B.listT rfl))))),?_⟩;walk_at "ds";refine wg (λds σ=>∃(P Z R:List Sc) (u2 u3:Option W),ds=Z.map scD/\P++Z=Ls/\Sq P R/\σ = [some (.val (.list (Ls.map scD))),some (.own (.dcT (kvR R))),u2,u3]) ?_ ?_ ⟨[],Ls,[],none,none,rfl,rfl,⟨λ_ h=>(nomatch h),λ_ h=>(nomatch h),Nat.le_refl _,List.nodup_nil⟩,rfl⟩
 ·rintro d ds σ N ⟨P,Z,R,u2,u3,e,ez,sq,rfl⟩ k
  cases Z with
  |nil=>cases e
  |cons S Z=>
   cases e;have hS:=hL S (by rw[<-ez];simp);have lR:R.length<100000:=by have:=sq.l;rw[<-ez]at hl;simp at hl;omega
   have lk:(kvR R).length<16777216:=by unfold kvR;rw[List.length_map];omega
   have ap:(P ++ [S])++Z=Ls:=by rw[List.append_assoc];exact ez
   refine ja (λσ=>σ = [some (.val (.list (Ls.map scD))),some (.own (.dcT (kvR R))),some (.val (scD S)),some (.own (.tk (ky S)))]) (λN hN=>?_) ?_
   ·have fin:=hN _ rfl;unfold scD at fin ⊢;walk_at "ds";rw[List.length_map];refine⟨by omega,wb qD (λp=>.int (p.1:Int)) (λp _ k hk=>?_) ⟨by rw[List.length_map];omega,.inl ⟨S.map λp=>(p.1:Int),by rw[List.map_map];rfl,ky S,zvq S,fin⟩⟩⟩;simp only[qD];walk_at "ds";exact hk
   rintro σ rfl;walk_at "ds";rcases zkg (ky S) R with⟨T,hT,e,g⟩ |⟨n,g⟩
   ·have hT2:=hL T (by rw[<-ez];exact List.mem_append_left _ (sq.m T hT));have f0:=k [some (.val (.list (Ls.map scD))),some (.own (.dcT (kvR R))),some (.val (scD S)),some (.own (.tk (ky S)))];have f1:=k [some (.val (.list (Ls.map scD))),some (.own (.dcT (zd0 (kvR R) (ky S) (scD S)))),some (.val (scD S)),some (.own (.tk (ky S)))];have g0:fre 0 T<=fre 0 S->N [some (.val (.list (Ls.map scD))),some (.own (.dcT (kvR R))),some (.val (scD S)),some (.own (.tk (ky S)))]:=λl=>f0 ⟨P ++ [S],Z,R,_,_,rfl,ap,ztu sq hT e l,rfl⟩;have g1:fre 0 S<fre 0 T->N [some (.val (.list (Ls.map scD))),some (.own (.dcT (zd0 (kvR R) (ky S) (scD S)))),some (.val (scD S)),some (.own (.tk (ky S)))]:=λl=>f1 ⟨P ++ [S],Z,R.map (swp S),_,_,rfl,ap,ztv sq hT e l,(by rw[zqo (e ▸ List.mem_map_of_mem hT)])⟩;clear f0 f1;rw[g];rw[if_neg (by simp)];rcases List.eq_nil_or_concat S with e1 |⟨S',p,eS⟩
    ·exact absurd e1 hS.1
    ·rcases List.eq_nil_or_concat T with e1 |⟨T',r,eT⟩
     ·exact absurd e1 hT2.1
     ·rw[List.concat_eq_append]at eS eT;have d1:fre 0 S=p.2+0:=by rw[eS,vi]
      have d2:fre 0 T=r.2+0:=by rw[eT,vi]
      have s1:scD S=.tuple (S'.map qD ++ [.tuple [.int (p.1:Int),.int p.2]]):=by rw[eS];unfold scD;rw[List.map_append];rfl
      have s2:scD T=.tuple (T'.map qD ++ [.tuple [.int (r.1:Int),.int r.2]]):=by rw[eT];unfold scD;rw[List.map_append];rfl
      rw[s1]at g0 g1 ⊢;walk_at "ds";refine⟨_,atI_end _ _,?_⟩;walk_at "ds";refine⟨_,j3 _ _ _,_,rfl,?_⟩;rw[s2];walk_at "ds";refine⟨_,atI_end _ _,?_⟩;walk_at "ds";refine⟨_,j3 _ _ _,?_⟩;walk_at "ds"
      by_cases c:p.2<r.2
      ·rw[if_pos c];exact⟨lk,g1 (by omega)⟩
      ·rw[if_neg c];exact g0 (by omega)
   ·rw[g];rw[if_pos (show(none:Option D).isSome=false from rfl)];exact⟨lk,k _ ⟨P ++ [S],Z,R ++ [S],_,_,rfl,ap,ztt sq n,(by rw[zqn n])⟩⟩
 ·rintro σ ⟨P,Z,R,u2,u3,e,ez,sq,rfl⟩
  cases Z with
  |cons S Z=>cases e
  |nil=>
   rw[List.append_nil]at ez;subst ez;walk_at "ds";have e:(kvR R).map (·.2)=R.map scD:=by unfold kvR;rw[List.map_map];rfl
   rw[e];exact q R λc=>sq.sn (λS hS=>(hL S hS).1) c
end
section
variable {P:Program}{w:World}{K:PySem.W.Frag}{mg:Str->Option Value}{base:Heap}{f:Addr}{fd:FuncData}
def vr:DSp:=λws Q=>∃(c:Int) (as:List (Int×Int)),ws = [.val (.int c),.val (.tuple (as.map pD))]/\as.length<=8/\∀S,Gdd c as S->(∀T,Okk c as T->T.length<=S.length)->Q (.val (scD S))
theorem ze4{α:Type}{f:D->(Option D->Prop)->Prop}(enc F:α->D):∀{as:List α}{acc:List D}{Q:List D->Prop},(∀a∈as,∀k:Option D->Prop,k (some (F a))->f (enc a) k)->acc.length+as.length<=sizeLine->Q (acc++as.map F)->zfy f (as.map enc) acc Q
 |[],acc,Q,_,_,q=>by
  rw[List.map_nil,List.append_nil]at q;exact q
 |a::as,acc,Q,h,hl,q=>by
  rw[List.map_cons,zfy];refine h a List.mem_cons_self _ ?_;rw[List.length_cons]at hl;exact⟨by omega,ze4 enc F (λb hb=>h b (List.mem_cons_of_mem _ hb)) (by rw[List.length_append,List.length_singleton];omega) (by rw[List.append_assoc];exact q)⟩
theorem zf6{α:Type}{g:DTG}{tt:DTT}{ti2:DTF}{is2:List Nat}{g2:DTG}{tt2:DTT}{te:DTE}{σ0:DSt}(enc:α->D)(F:α->List D)(n B:Nat):
  ∀(as:List α) (acc:List D) (Q:List D->Prop),(∀a∈as,(F a).length<=n) ->
  (∀a∈as,∀(acc:List D) (R:List D->Prop),acc.length+n<=B->R (acc++F a)->g (enc a) σ0 λσ1=>tt σ1 λb=>if b=true then ti2 σ1 λes=>zfy (lcF g2 tt2 te (qi is2 0 σ1)) es acc R else R acc) ->
  acc.length+as.length * n<=B->Q (acc++as.flatMap F)->zhg g tt ti2 is2 g2 tt2 te σ0 (as.map enc) acc Q
 |[],acc,Q,_,_,_,q=>by
  rw[List.flatMap_nil,List.append_nil]at q;exact q
 |a::as,acc,Q,hF,h,hl,q=>by
  rw[List.length_cons,Nat.add_mul]at hl;rw[List.map_cons,zhg];refine h a List.mem_cons_self acc _ (by omega) (zf6 enc F n B as _ Q (λx hx=>hF x (List.mem_cons_of_mem _ hx)) (λx hx=>h x (List.mem_cons_of_mem _ hx)) ?_ ?_)
  ·have:=hF a List.mem_cons_self;rw[List.length_append];omega
  ·rw[List.append_assoc];exact q
theorem zdl{α β:Type}{F:α->List β}{n:Nat}:∀{as:List α},(∀a∈as,(F a).length<=n)->(as.flatMap F).length<=as.length * n
 |[],_=>Nat.zero_le _
 |a::as,h=>by
  have h1:=h a List.mem_cons_self;have h2:=zdl λb hb=>h b (List.mem_cons_of_mem _ hb);rw[List.flatMap_cons,List.length_append,List.length_cons,Nat.add_mul];omega
theorem zcb(B:Blt mg)(F:Fun K "schedule_for" "schedule_for" y3 f fd)(C_longer_by_one:Cal P w K mg base 1 "longer_by_one" ["need", "askings", "schedule"] (yc K kj))(C_soonest_of_each:Cal P w K mg base 1 "soonest_of_each" ["schedules"] (yc K qf)):FnOk P w K mg base CX0 2 f fd ["need", "askings"] (yc K vr):=by
 refine F.dok sc_schedule_for (λws Q h=>?_) (λcdv A outer s H ws Q E hr h=>?_)
 ·obtain⟨c,as,rfl,_⟩:=h;rfl
 obtain⟨c,as,rfl,hl,q⟩:=h;refine⟨_,(zc (yw (i:=2) sc_schedule_for.nd rfl (Or.inl rfl) (vk yi)) (zc (yw (i:=3) sc_schedule_for.nd rfl (Or.inl rfl) (DF.de (wu (zt (yf 2) yi)))) (zc (zg2 PassesOwn.never (wn (zb 3)) (zc (yw (i:=2) sc_schedule_for.nd rfl (Or.inl rfl) (wm (zb 3) zj (λ_ _=>rfl))) (zc (ze3 (i:=4) sc_schedule_for.nd rfl (Or.inl rfl) rfl (N':=["schedule", "more", "need", "askings"]) (capt:=["need", "askings"]) (k:=2) (js:=[0,1]) ⟨rfl,by decide,rfl,by decide,(.cons rfl (.cons rfl .nil)),rfl,(.cons rfl (Or.inl rfl) rfl (Or.inl rfl) (.cons rfl (Or.inl rfl) rfl (Or.inl rfl) .nil)),rfl,by decide⟩ (wt (zb 3)) (λ_ _ _ _=>(zo (i:=0) (show List.Nodup (["schedule", "more", "need", "askings"]:List Str) by decide +kernel) rfl (Or.inl rfl) (Or.inr rfl))) (λ_ _ _ _=>xf) (λ_ _ _ _=>(zao (zh C_longer_by_one hr rfl (zi 2 (zi 3 (zi 0 zm)))))) (λ_ _ _ _=>(zo (i:=1) (show List.Nodup (["schedule", "more", "need", "askings"]:List Str) by decide +kernel) rfl (Or.inl rfl) (Or.inr rfl))) (λ_ _ _ _=>xf) (λ_ _ _ _=>(yf 1))) (ze (yw (i:=3) sc_schedule_for.nd rfl (Or.inl rfl) (zh C_soonest_of_each hr rfl (zi 4 zm))))))) (ze (z0 (yf 2)))))),?_⟩;walk_at "ds";refine zer (λm σ=>∃(k:Nat) (L:List Sc) (d:D) (u4:Option W),m+k=9/\Ly c as k L/\L.length<=pb k/\(L = []->∃S,d=scD S/\Gdd c as S/\∀T,Okk c as T->T.length<=S.length)/\σ = [some (.val (.int c)),some (.val (.tuple (as.map pD))),some (.val d),some (.val (.list (L.map scD))),u4]) 9 ⟨0,[[]],_,none,rfl,zqh c as,by decide,λh=>(by cases h),rfl⟩ ?_;rintro m σ N ⟨k,L,d,u4,hm,ly,lb,hd,rfl⟩ kk;walk_at "ds"
 cases L with
 |nil=>
  obtain⟨S,rfl,g,mx⟩:=hd rfl;rw[if_neg (by simp)];exact q S g mx
 |cons S0 L0=>
  have g0:=ly.g S0 List.mem_cons_self;have k8:k<=8:=by have:=g0.1.ok.len;omega
  have few:∀S∈S0::L0,(lbo c S 0 as).length<=8-k:=λS hS=>by
   obtain⟨g,l⟩:=ly.g S hS;have:=zqg g.ok;omega
  have fl:=zdl few;have pk:(S0::L0).length *(8-k)<=pb (k+1):=Nat.mul_le_mul_right _ lb;have pl:=zvp (k+1);rw[if_pos (by simp)];refine⟨scD S0,ke _ _,zf6 scD (λS=>(lbo c S 0 as).map scD) (8-k) 16777216 (S0::L0) [] _ (λS hS=>by rw[List.length_map];exact few S hS) (λS hS acc R hl2 hR=>?_) (by rw[List.length_nil];omega) ?_⟩
  ·walk_at "ds";refine⟨c,as,S,rfl,(ly.g S hS).1.ok,hl,?_⟩;walk_at "ds";have fS:=few S hS;refine ze4 scD scD (λY _ K hK=>?_) (by rw[sizeLine_eq];omega) hR;walk_at "ds";exact hK
  ·rw[List.nil_append,<-List.map_flatMap]
   have mem:∀X∈(S0::L0).flatMap λS=>lbo c S 0 as,Gdd c as X/\X.length=k+1:=λX hX=>by
    obtain⟨S,hS,hm⟩:=List.mem_flatMap.mp hX;obtain⟨j,r,e1,e2,rfl⟩:=mem_lbo.mp hm;obtain⟨g,l⟩:=ly.g S hS;rw[Nat.zero_add]at e2 ⊢;exact⟨.snoc g e1 e2.1 rfl e2.2,by rw[List.length_append,l];rfl⟩
   refine⟨(S0::L0).flatMap λS=>lbo c S 0 as,rfl,λX hX=>?_,by omega,λRs sn=>?_⟩
   ·obtain⟨g,l⟩:=mem X hX;have:=g.ok.len;exact⟨λz=>(by rw[z]at l;cases l),by omega⟩
   ·have ly2:=zqi ly (sn c);have l2:=(sn c).l;refine kk (m-1) _ (by omega) ⟨k+1,Rs,scD S0,_,by omega,ly2,by omega,λe=>⟨S0,rfl,g0.1,λT hT=>?_⟩,rfl⟩;subst e;rw[g0.2];exact zqj ly2 hT
def jv:DSp:=λws Q=>∃(c:Int) (as:List (Int×Int)),ws = [.val (.int c),.val (.tuple (as.map pD))]/\as.length<=8/\∀S,Gdd c as S->(∀T,Okk c as T->T.length<=S.length)->Q (.val (.int (S.length:Int)))
theorem zdm(B:Blt mg)(F:Fun K "most_served" "most_served" xa f fd)(C_schedule_for:Cal P w K mg base 2 "schedule_for" ["need", "askings"] (yc K vr)):FnOk P w K mg base CX0 3 f fd ["need", "askings"] (yc K jv):=by
 refine F.dok zdg (λws Q h=>?_) (λcdv A outer s H ws Q E hr h=>?_)
 ·obtain⟨c,as,rfl,_⟩:=h;rfl
 obtain⟨c,as,rfl,hl,q⟩:=h;refine⟨_,(ze (z0 (zy va rfl B.len PySem.boot_len (zg (DE.dv (zh C_schedule_for hr rfl (zi 0 (zi 1 zm)))) zv)))),?_⟩;walk_at "ds";refine⟨c,as,rfl,hl,λS g mx=>?_⟩;have:=q S g mx;unfold scD;walk_at "ds";rw[List.length_map];exact this
end
section
variable {P:Program}{w:World}{K:PySem.W.Frag}{mg:Str->Option Value}{base:Heap}{f:Addr}{fd:FuncData}
def xo:List (Int×Int)->Int->List Int
 |[],_=>[]
 |r::rs,t=>t::(if t<r.1 then [] else xo rs (max (t-r.1-r.2) 0))
theorem zav:∀(rs:List (Int×Int)) (t:Int),(xo rs t).length<=rs.length
 |[],_=>Nat.le_refl _
 |r::rs,t=>by
  simp only[xo,List.length_cons]
  split
  ·simp
  ·have:=zav rs (max (t-r.1-r.2) 0);omega
def jw:DSp:=λws Q=>∃(rs:List (Int×Int)) (t:Int),ws = [.val (.tuple (rs.map pD)),.val (.int t)]/\rs.length<=100/\Q (.new ((xo rs t).map PyData.int))
theorem zhn(B:Blt mg)(F:Fun K "times_of" "times_of" x8 f fd):FnOk P w K mg base CX0 1 f fd ["road", "time"] (yc K jw):=by
 refine F.dok sc_times_of (λws Q h=>?_) (λcdv A outer s H ws Q E hr h=>?_)
 ·obtain⟨rs,t,rfl,_⟩:=h;rfl
 obtain⟨rs,t,rfl,hl,q⟩:=h;refine⟨_,(zc (kx (i:=2) sc_times_of.nd rfl (Or.inl rfl) (wu yi)) (zc (yw (i:=3) sc_times_of.nd rfl (Or.inl rfl) (yf 1)) (zc (qx PassesOwn.never rfl (zao (yf 0)) (xn (n:=2) rfl (zq (zo (i:=4) sc_times_of.nd rfl (Or.inl rfl)) (zq (zo (i:=5) sc_times_of.nd rfl (Or.inl rfl)) y8))) (zc (vg 2 (yf 3)) (zc (xq (yr zk8 (zb 3) (zb 4) (yd _)) (ze zni) yo) (ze (yw (i:=3) sc_times_of.nd rfl (Or.inl rfl) (zy (zen rfl) rfl B.max boot_max (zg (DE.dv (yv zcx (DE.dv (yv zcx (zb 3) (zb 4))) (zb 5))) (zg (DE.dv zj) zv ko)))))))) (ze (zcj 2))))),?_⟩;walk_at "ds";refine wg (λds σ=>∃(rs':List (Int×Int)) (acc:List D) (left:Int) (u v:Option W),ds=rs'.map pD/\σ = [some (.val (.tuple (rs.map pD))),some (.val (.int t)),some (.own (.lst acc)),some (.val (.int left)),u,v]/\acc.length+rs'.length<=100/\Q (.new (acc++(xo rs' left).map PyData.int))) ?_ ?_ ⟨rs,[],t,none,none,rfl,rfl,by simpa using hl,q⟩
 ·rintro d ds σ N ⟨rs',acc,left,u,v,e,rfl,hl,q⟩ k
  cases rs' with
  |nil=>cases e
  |cons r rs'=>
   cases e;simp only[pD];walk_at "ds";refine⟨(by omega),?_⟩
   split
   ·next c=>simpa[xo,c]using q
   ·next c=>exact k _ ⟨rs',_,_,_,_,rfl,rfl,by simp at hl ⊢;omega,by simpa[xo,c]using q⟩
 ·rintro σ ⟨rs',acc,left,u,v,e,rfl,hl,q⟩
  cases rs' with
  |nil=>walk_at "ds";simpa[xo]using q
  |cons r rs'=>cases e
def w5:List (Int×Int)->Int->Option Nat
 |[],_=>none
 |r::rs,t=>if t<r.1 then some 0 else (w5 rs (max (t-r.1-r.2) 0)).map (·+1)
def oD(k:Nat):Option Nat->D
 |none=>.none
 |some j=>.int ((k+j:Nat):Int)
theorem zqp(k:Nat)(o:Option Nat):oD k (o.map (·+1))=oD (k+1) o:=by
 cases o with
 |none=>rfl
 |some j=>simp only[oD,Option.map_some];rw[show k+(j+1)=k+1+j by omega]
theorem zqq{α β:Type}(f:α->β)(pre:List α)(r:α)(post:List α):atI ((pre++r::post).map f) (pre.length:Int)=some (f r):=jy (by simp)
def jc:DSp:=λws Q=>∃(rs:List (Int×Int)) (t:Int),ws = [.val (.tuple (rs.map pD)),.val (.int t)]/\rs.length<=100/\Q (.val (oD 0 (w5 rs t)))
theorem zf7(B:Blt mg)(F:Fun K "turned_at" "turned_at" xu f fd)(C_times_of:Cal P w K mg base 1 "times_of" ["road", "time"] (yc K jw)):FnOk P w K mg base CX0 2 f fd ["road", "time"] (yc K jc):=by
 refine F.dok sc_turned_at (λws Q h=>?_) (λcdv A outer s H ws Q E hr h=>?_)
 ·obtain⟨rs,t,rfl,_⟩:=h;rfl
 obtain⟨rs,t,rfl,hl,q⟩:=h;refine⟨_,(zc (qx PassesOwn.never rfl (zc2 rfl B.enumerate (zt (zh C_times_of hr rfl (zi 0 (zi 1 zm))) yi)) (xn (n:=2) rfl (zq (zo (i:=2) sc_turned_at.nd rfl (Or.inl rfl)) (zq (zo (i:=3) sc_turned_at.nd rfl (Or.inl rfl)) y8))) (ze (xq (yr zk8 (zb 3) (DE.dv (wm (DE.dv (wm (zb 0) (yf 2) (λ_ _=>rfl))) zj (λ_ _=>rfl))) (yd _)) (ze (z0 (yf 2))) yo))) (ze (z0 qu))),?_⟩;walk_at "ds";refine⟨rs,t,rfl,hl,?_⟩;walk_at "ds";refine wg (λds σ=>∃(pre rs':List (Int×Int)) (left:Int) (u v:Option W),rs=pre++rs'/\ds=vx pre.length ((xo rs' left).map PyData.int)/\σ = [some (.val (.tuple (rs.map pD))),some (.val (.int t)),u,v]/\Q (.val (oD pre.length (w5 rs' left)))) ?_ ?_ ⟨[],rs,t,none,none,rfl,rfl,rfl,q⟩
 ·rintro d ds σ N ⟨pre,rs',left,u,v,rfl,e,rfl,q⟩ k
  cases rs' with
  |nil=>cases e
  |cons r rs'=>
   simp only[xo,List.map_cons,vx]at e
   cases e;walk_at "ds";refine⟨_,zqq pD pre r rs',?_⟩;simp only[pD];walk_at "ds";refine⟨_,ke _ _,?_⟩;walk_at "ds"
   split
   ·next c=>simpa[w5,c,oD]using q
   ·next c=>
    refine k _ ⟨pre ++ [r],rs',max (left-r.1-r.2) 0,_,_,by simp,by simp[c],rfl,?_⟩;rw[List.length_append,List.length_singleton,<-zqp];simpa[w5,c]using q
 ·rintro σ ⟨pre,rs',left,u,v,rfl,e,rfl,q⟩
  cases rs' with
  |nil=>walk_at "ds";simpa[w5,oD]using q
  |cons r rs'=>cases e
def w6(rs:List (Int×Int)):Int:=(rs.map λr=>r.1).sum
theorem zbd{f:D->(Option D->Prop)->Prop}(F:Int×Int->Int){rs:List (Int×Int)}{Q:List D->Prop}(h:∀r∈rs,∀k:Option D->Prop,k (some (.int (F r)))->f (pD r) k)(q:Q ((rs.map F).map PyData.int)):lcD f (rs.map pD) Q :=
 wb pD (λr=>.int (F r)) h (by rw[List.map_map]at q;exact q)
def qp:DSp:=λws Q=>∃(rs:List (Int×Int)),ws = [.val (.tuple (rs.map pD))]/\rs.length<=100/\Q (.val (.int (w6 rs)))
theorem zho(B:Blt mg)(F:Fun K "needs_of" "needs_of" x9 f fd):FnOk P w K mg base CX0 1 f fd ["road"] (yc K qp):=by
 refine F.dok zhj (λws Q h=>?_) (λcdv A outer s H ws Q E hr h=>?_)
 ·obtain⟨rs,rfl,_⟩:=h;rfl
 obtain⟨rs,rfl,hl,q⟩:=h;refine⟨_,(ze (z0 (zy (zjp rfl) rfl B.sum boot_sum (zg (DE.dv (DF.de (qe rfl (N':=["need", "keep"]) (capt:=[]) (k:=2) (js:=[]) ⟨rfl,by decide,rfl,by decide,.nil,rfl,.nil,rfl,by decide⟩ (wt (zb 0)) (λ_ _ _ _=>(xn (n:=2) rfl (zq (zo (i:=0) (show List.Nodup (["need", "keep"]:List Str) by decide +kernel) rfl (Or.inl rfl) (Or.inr rfl)) (zq (zo (i:=1) (show List.Nodup (["need", "keep"]:List Str) by decide +kernel) rfl (Or.inl rfl) (Or.inr rfl)) y8)))) (λ_ _ _ _=>xf) (λ_ _ _ _=>(yf 0))))) zv)))),?_⟩;walk_at "ds";refine⟨by rw[List.length_map];omega,zbd (λr=>r.1) (λr hr k hk=>?_) ⟨_,kb _,q⟩⟩;simp only[pD];walk_at "ds";exact hk
def zaa(rs:List (Int×Int)):Int:=(rs.map λr=>r.2).sum
def ww(rs:List (Int×Int)):Int:=w6 rs+zaa rs.dropLast
theorem sliceD_dropLast(xs:List D):x3 xs none (some (-1))=xs.dropLast:=by
 unfold x3;rw[HT.sIx_none];have:HT.sIx xs.length xs.length (some (-1))=xs.length-1:=by
  unfold HT.sIx;simp
  try omega
 rw[this];simp[List.dropLast_eq_take]
def ka:DSp:=λws Q=>∃(rs:List (Int×Int)),ws = [.val (.tuple (rs.map pD))]/\rs.length<=100/\Q (.val (.int (ww rs)))
theorem zd4(B:Blt mg)(F:Fun K "least_time" "least_time" xg f fd)(C_needs_of:Cal P w K mg base 1 "needs_of" ["road"] (yc K qp)):FnOk P w K mg base CX0 2 f fd ["road"] (yc K ka):=by
 refine F.dok zd1 (λws Q h=>?_) (λcdv A outer s H ws Q E hr h=>?_)
 ·obtain⟨rs,rfl,_⟩:=h;rfl
 obtain⟨rs,rfl,hl,q⟩:=h;refine⟨_,(ze (z0 (yv xy (DE.dv (zh C_needs_of hr rfl (zi 0 zm))) (DE.dv (zy (zjp rfl) rfl B.sum boot_sum (zg (DE.dv (DF.de (qe rfl (N':=["need", "keep"]) (capt:=[]) (k:=2) (js:=[]) ⟨rfl,by decide,rfl,by decide,.nil,rfl,.nil,rfl,by decide⟩ (wt (DE.dv (qc (zb 0) kw (v4 (zbj zj))))) (λ_ _ _ _=>(xn (n:=2) rfl (zq (zo (i:=0) (show List.Nodup (["need", "keep"]:List Str) by decide +kernel) rfl (Or.inl rfl) (Or.inr rfl)) (zq (zo (i:=1) (show List.Nodup (["need", "keep"]:List Str) by decide +kernel) rfl (Or.inl rfl) (Or.inr rfl)) y8)))) (λ_ _ _ _=>xf) (λ_ _ _ _=>(yf 1))))) zv)))))),?_⟩;walk_at "ds";refine⟨rs,rfl,hl,?_⟩;walk_at "ds";rw[sliceD_dropLast,<-List.map_dropLast];refine⟨by simp;omega,zbd (λr=>r.2) (λr hr k hk=>?_) ⟨_,kb _,q⟩⟩;simp only[pD];walk_at "ds";exact hk
def vz(rs:List (Int×Int))(t w:Int):Int:=match w5 rs t with
 |none=>0
 |some k=>w+w6 (rs.take k)
def jd:DSp:=λws Q=>∃(rs:List (Int×Int)) (t:Int),ws = [.val (.tuple (rs.map pD)),.val (.int t)]/\rs.length<=100/\Q (.val (.int (vz rs t 0)))
theorem zi5(B:Blt mg)(F:Fun K "vain_of" "vain_of" wk f fd)(C_turned_at:Cal P w K mg base 2 "turned_at" ["road", "time"] (yc K jc))(C_needs_of:Cal P w K mg base 1 "needs_of" ["road"] (yc K qp)):FnOk P w K mg base CX0 3 f fd ["road", "time"] (yc K jd):=by
 refine F.dok sc_vain_of (λws Q h=>?_) (λcdv A outer s H ws Q E hr h=>?_)
 ·obtain⟨rs,t,rfl,_⟩:=h;rfl
 obtain⟨rs,t,rfl,hl,q⟩:=h;refine⟨_,(zc (yw (i:=2) sc_vain_of.nd rfl (Or.inl rfl) (zh C_turned_at hr rfl (zi 0 (zi 1 zm)))) (zc (xq (yr zjn (zb 2) (DE.dv qu) (yd _)) (ze (z0 zj)) yo) (ze (z0 (zh C_needs_of hr rfl (yx (qc (zb 0) kw (v4 (yf 2))) zm)))))),?_⟩;walk_at "ds";refine⟨rs,t,rfl,hl,?_⟩;walk_at "ds"
 cases e:w5 rs t with
 |none=>
  simp only[vz,e]at q;simp only[oD];walk_at "ds";exact q
 |some k=>
  simp only[vz,e,Int.zero_add]at q;simp only[oD,Nat.zero_add];walk_at "ds";rw[jp,<-List.map_take];exact⟨rs.take k,rfl,by rw[List.length_take];omega,q⟩
def zb5:DSp:=λws Q=>∃(rs:List (Int×Int)) (t:Int),ws = [.val (.tuple (rs.map pD)),.val (.int t)]/\rs.length<=100/\Q (.val (.int (if t<w6 rs then w6 rs else 0)))
theorem zhp(B:Blt mg)(F:Fun K "blind_of" "blind_of" wa f fd)(C_needs_of:Cal P w K mg base 1 "needs_of" ["road"] (yc K qp)):FnOk P w K mg base CX0 2 f fd ["road", "time"] (yc K zb5):=by
 refine F.dok sc_blind_of (λws Q h=>?_) (λcdv A outer s H ws Q E hr h=>?_)
 ·obtain⟨rs,t,rfl,_⟩:=h;rfl
 obtain⟨rs,t,rfl,hl,q⟩:=h;refine⟨_,(zc (yw (i:=2) sc_blind_of.nd rfl (Or.inl rfl) (zh C_needs_of hr rfl (zi 0 zm))) (zc (xq (yr zh9 (zb 2) (zb 1) (yd _)) (ze (z0 (yf 2))) yo) (ze (z0 zj)))),?_⟩;walk_at "ds";refine⟨rs,rfl,hl,?_⟩;walk_at "ds"
 split
 ·next c=>rw[if_pos c]at q;exact q
 ·next c=>rw[if_neg c]at q;exact q
structure OkR(rs:List (Int×Int)):Prop where
 all:∀r∈rs,1<=r.1/\r.1<=1000/\0<=r.2/\r.2<=1000
 lo:1<=rs.length
 hi:rs.length<=8
def zbe:DSp:=λws Q=>ws = [.pen]/\∀rs,OkR rs->Q (.val (.tuple (rs.map pD)))
theorem zf8(B:Blt mg)(F:Fun K "_law_road" "_law_road" xx f fd)(C__law_draw:Cal P w K mg base 2 "_law_draw" ["_law_pen", "_law_many"] (yc K x4)):FnOk P w K mg base CX0 3 f fd ["_law_pen"] (yc K zbe):=by
 refine F.dok sc__law_road (λws Q h=>?_) (λcdv A outer s H ws Q E hr h=>?_)
 ·obtain⟨rfl,_⟩:=h;rfl
 obtain⟨rfl,q⟩:=h;refine⟨_,(zc (zii (vk (zt (yv xy (DE.dv zj) (DE.dv (zh C__law_draw hr rfl (zi 0 (yx zj zm ko))))) (zt (wm (DE.dv (DF.de (wu (zt zj (zt zj (zt zj yi ko) ko) ko)))) (zh C__law_draw hr rfl (zi 0 (yx zj zm ko))) (λ_ _=>rfl)) yi))) (xn (n:=2) rfl (zq (zo (i:=1) sc__law_road.nd rfl (Or.inl rfl)) (zq (zo (i:=2) sc__law_road.nd rfl (Or.inr rfl)) y8)))) (ze (z0 (wx ku rfl B.tupleT boot_tuple (zg (DE.dv (DF.de (qe rfl (N':=["_law_house", "_law_pen", "_law_wide"]) (capt:=["_law_pen", "_law_wide"]) (k:=1) (js:=[0,2]) ⟨rfl,by decide,rfl,by decide,(.cons rfl (.cons rfl .nil)),rfl,(.cons rfl (Or.inl rfl) rfl (Or.inl rfl) (.cons rfl (Or.inl rfl) rfl (Or.inl rfl) .nil)),rfl,by decide⟩ (DI.w (kc rfl B.range (zt (yf 1) yi))) (λ_ _ _ _=>(zo (i:=0) (show List.Nodup (["_law_house", "_law_pen", "_law_wide"]:List Str) by decide +kernel) rfl (Or.inl rfl) (Or.inr rfl))) (λ_ _ _ _=>xf) (λ_ _ _ _=>(vk (zt (yv xy (DE.dv zj) (DE.dv (zh C__law_draw hr rfl (zi 1 (zi 2 zm))))) (zt (zh C__law_draw hr rfl (zi 1 (yx (yv xy (zb 2) (DE.dv zj)) zm))) yi))))))) zv))))),?_⟩;walk_at "ds";refine kg (by decide) (by decide) λv h1 h2=>?_;walk_at "ds";refine(kg (by decide) (by decide) λw h3 h4=>?_);walk_at "ds";refine zn0 (ns:=[4,30,1000]) (lo:=4) (hi:=1000) h3 (by simpa using h4) (by decide) λn h5 h6=>?_;walk_at "ds";refine⟨⟨by omega,by omega⟩,by simp[y9];omega,?_⟩;refine zim (λy=>∃r:Int×Int,y=pD r/\1<=r.1/\r.1<=1000/\0<=r.2/\r.2<=1000) (λd k hk=>?_) λys hy hp=>?_
 ·walk_at "ds";refine kg (by omega) (by omega) λa h7 h8=>?_;walk_at "ds";refine kg (by omega) (by omega) λb h9 h10=>?_;walk_at "ds";exact hk _ ⟨(1+a,b),rfl,by simp only[];omega⟩
 ·obtain⟨rs,rfl,h⟩:=zfq hp;walk_at "ds";rw[List.length_map]at hy;exact q rs ⟨h,by omega,by omega⟩
end
section
variable {P:Program}{w:World}{K:PySem.W.Frag}{mg:Str->Option Value}{base:Heap}{f:Addr}{fd:FuncData}
def nI(n:Nat):D:=.int (n:Int)
def otD(o:List Nat):D:=.tuple (o.map nI)
def pick(rs:List (Int×Int))(o:List Nat):List (Int×Int):=o.map λi=>rs.getD i (0,0)
theorem zaw(rs:List (Int×Int)):pick rs (List.range rs.length)=rs:=by
 unfold pick;refine List.ext_getElem (by simp) λi h1 h2=>?_;simp[List.getD_eq_getElem?_getD,h2]
theorem zbx{α β:Type}{f:α->β}:∀{l:List α}{l':List β},l'.Perm (l.map f)->∃o:List α,o.Perm l/\l'=o.map f
 |[],l',h=>⟨[],.refl _,h.eq_nil⟩
 |a::l,l',h=>by
  have hm:f a∈l':=h.mem_iff.mpr List.mem_cons_self;obtain⟨s,t,rfl⟩:=List.append_of_mem hm;have h2:(s++t).Perm (l.map f):=(List.perm_middle.symm.trans h).cons_inv;obtain⟨o,p,e⟩:=zbx h2;obtain⟨o1,o2,rfl,rfl,rfl⟩:=List.map_eq_append_iff.mp e.symm;exact⟨o1++a::o2,List.perm_middle.trans (p.cons a),by simp⟩
theorem pick_perm{rs:List (Int×Int)}{o:List Nat}(h:o.Perm (List.range rs.length)):(pick rs o).Perm rs:=by
 have:=h.map λi=>rs.getD i (0,0)
 rwa [show(List.range rs.length).map (λi=>rs.getD i (0,0))=rs from zaw rs]at this
theorem zl3{rs rs':List (Int×Int)}(h:rs'.Perm rs):∃o:List Nat,o.Perm (List.range rs.length)/\rs'=pick rs o:=by
 rw[<-zaw rs]at h;exact zbx h
def zi6(n:Nat):List Int:=(List.range n).map λi:Nat=>(i:Int)
theorem ztx(n:Nat):(zi6 n).Pairwise (· <= ·):=by
 unfold zi6;rw[List.pairwise_map];exact List.pairwise_lt_range.imp λh=>by omega
theorem zl4{n:Nat}{o:List Nat}(h:o.Perm (List.range n)):ji (o.map λi:Nat=>(i:Int))=zi6 n:=(zaq (h.map _).symm (ztx n)).symm
def qt(n:Nat):Nat->List (List Nat)
 |0=>[[]]
 |k+1=>(qt n k).flatMap λo=>((List.range n).filter λi=>decide (i∉o)).map λi=>o ++ [i]
theorem ords_mem{n:Nat}:∀{k:Nat}{o:List Nat},o∈qt n k↔o.Nodup/\o.length=k/\∀i∈o,i<n
 |0,o=>by
  constructor
  ·intro h;rw[List.mem_singleton.mp h];exact⟨List.nodup_nil,rfl,λi hi=>nomatch hi⟩
  ·rintro ⟨_,h,_⟩;rw[List.length_eq_zero_iff.mp h];exact List.mem_cons_self
 |k+1,o=>by
  rw[qt,List.mem_flatMap];constructor
  ·rintro ⟨p,hp,h⟩;obtain⟨i,hi,rfl⟩:=List.mem_map.mp h;obtain⟨hi1,hi2⟩:=List.mem_filter.mp hi;have hi2:=of_decide_eq_true hi2;obtain⟨h1,h2,h3⟩:=ords_mem.mp hp;refine⟨?_,by simp[h2],λj hj=>?_⟩
   ·rw[List.nodup_append];refine⟨h1,List.nodup_cons.mpr ⟨λz=>(nomatch z),List.nodup_nil⟩,λx hx y hy z=>?_⟩;rw[List.mem_singleton.mp hy]at z;exact hi2 (z ▸ hx)
   ·rcases List.mem_append.mp hj with hj|hj
    ·exact h3 j hj
    ·rw[List.mem_singleton.mp hj];exact List.mem_range.mp hi1
  ·rintro ⟨h1,h2,h3⟩;rcases List.eq_nil_or_concat o with rfl |⟨p,i,e⟩
   ·cases h2
   ·rw[List.concat_eq_append]at e;subst e;rw[List.nodup_append]at h1;refine⟨p,ords_mem.mpr ⟨h1.1,by simpa using h2,λj hj=>h3 j (List.mem_append_left _ hj)⟩,List.mem_map.mpr ⟨i,List.mem_filter.mpr ⟨List.mem_range.mpr (h3 i (by simp)),decide_eq_true λhm=>h1.2.2 i hm i List.mem_cons_self rfl⟩,rfl⟩⟩
theorem zdn{n:Nat}{o:List Nat}(h1:o.Nodup)(h2:o.length=n)(h3:∀i∈o,i<n):o.Perm (List.range n):=by
 have:∀{l m:List Nat},l.Nodup->(∀i∈l,i∈m)->m.length=l.length->l.Perm m:=λ{l}=>by
  induction l with
  |nil=>intro m _ _ h;rw[List.length_eq_zero_iff.mp h]
  |cons a l ih=>
   intro m nd hm hl;obtain⟨n1,n2⟩:=List.nodup_cons.mp nd;have ha:=hm a List.mem_cons_self;have hl2:=List.length_erase_of_mem ha;rw[List.length_cons]at hl;have:=ih (m:=m.erase a) n2 (λi hi=>(List.mem_erase_of_ne (λ(z:i=a)=>n1 (z ▸ hi))).mpr (hm i (List.mem_cons_of_mem _ hi))) (by omega);exact(this.cons a).trans (List.perm_cons_erase ha).symm
 exact this h1 (λi hi=>List.mem_range.mpr (h3 i hi)) (by rw[List.length_range,h2])
theorem ords_perm{n:Nat}{o:List Nat}:o∈qt n n↔o.Perm (List.range n):=by
 rw[ords_mem];constructor
 ·rintro ⟨h1,h2,h3⟩;exact zdn h1 h2 h3
 ·intro h;exact⟨h.nodup_iff.mpr List.nodup_range,by rw[h.length_eq,List.length_range],λi hi=>List.mem_range.mp (h.mem_iff.mp hi)⟩
theorem zdo{n:Nat}:∀k:Nat,(qt n k).length<=n ^ k
 |0=>Nat.le_refl _
 |k+1=>by
  have h:=zdo (n:=n) k;have h2:=zdl (F:=λo:List Nat=>((List.range n).filter λi=>decide (i∉o)).map λi=>o ++ [i]) (n:=n) (as:=qt n k) λo _=>by
   rw[List.length_map];have:=List.length_filter_le (λi=>decide (i∉o)) (List.range n)
   rwa [List.length_range]at this
  rw[qt,Nat.pow_succ];exact Nat.le_trans h2 (Nat.mul_le_mul_right _ h)
theorem ze5{rs:List (Int×Int)}(h:rs ≠ []):ww rs=w6 rs+zaa rs-(rs.getLast h).2:=by
 have e:=List.dropLast_concat_getLast h;have k:zaa rs=zaa rs.dropLast+(rs.getLast h).2:=by
  conv=>lhs;rw[<-e]
  simp[zaa]
 unfold ww;omega
theorem zhq{l l':List Int}(h:l'.Perm l):l'.sum=l.sum:=by
 induction h with
 |nil=>rfl
 |cons a _ ih=>rw[List.sum_cons,List.sum_cons,ih]
 |swap a b l=>simp only[List.sum_cons];omega
 |trans _ _ h1 h2=>rw[h1,h2]
theorem ze6{rs rs':List (Int×Int)}(h:rs'.Perm rs):w6 rs'=w6 rs:=zhq (h.map _)
theorem ze7{rs rs':List (Int×Int)}(h:rs'.Perm rs):zaa rs'=zaa rs:=zhq (h.map _)
end
section
variable {P:Program}{w:World}{K:PySem.W.Frag}{mg:Str->Option Value}{base:Heap}{f:Addr}{fd:FuncData}
def je(bs:List (Int×Int)):D->Bool
 |.tuple xs=>decide (xs.length=bs.length) && (xs.zip bs).all λp=>inB p.2.1 p.2.2 p.1
 |_=>false
theorem zhr:∀(xs:List D) (bs:List (Int×Int)),qh xs (bs.map pD)=(xs.zip bs).map λp=>PyData.tuple [p.1,pD p.2]
 |[],_=>by simp[qh]
 |_::_,[]=>by simp[qh]
 |x::xs,b::bs=>by
  have:=zhr xs bs;simp only[qh]at this;simp[qh,this]
def jf:DSp:=λws Q=>∃(d:D) (bs:List (Int×Int)),ws = [.val d,.val (.tuple (bs.map pD))]/\bs.length<=1000/\Q (.val (.bool (je bs d)))
theorem zf9(B:Blt mg)(F:Fun K "wholes_in" "wholes_in" xr f fd)(C_whole_in:Cal P w K mg base 2 "whole_in" ["thing", "least", "most"] (yc K ju)):FnOk P w K mg base CX0 3 f fd ["thing", "bounds"] (yc K jf):=by
 refine F.dok zf2 (λws Q h=>?_) (λcdv A outer s H ws Q E hr h=>?_)
 ·obtain⟨d,bs,rfl,_⟩:=h;rfl
 obtain⟨d,bs,rfl,hl,q⟩:=h;refine⟨_,(zc (xq (DWt.dt (qk (w4 (wn (DE.dv (zan (n := "tuple") za2 rfl B.isinstance boot_isinstance (zb 0) rfl B.tupleT boot_tuple)))) (vm (yr (zgv hr) (DE.dv (zy va rfl B.len PySem.boot_len (zg (zb 0) zv))) (DE.dv (zy va rfl B.len PySem.boot_len (zg (zb 1) zv))) (yd _))))) (ze (z0 wf)) yo) (ze (z0 (zy (zgw rfl) rfl B.all boot_all (zg (DE.dv (DF.de (qe rfl (N':=["number", "least", "most"]) (capt:=[]) (k:=3) (js:=[]) ⟨rfl,by decide,rfl,by decide,.nil,rfl,.nil,rfl,by decide⟩ (zci rfl B.zip (zg (zb 0) (zg (zb 1) zv))) (λ_ _ _ _=>(xn (n:=2) rfl (zq (zo (i:=0) (show List.Nodup (["number", "least", "most"]:List Str) by decide +kernel) rfl (Or.inl rfl) (Or.inr rfl)) (zq (xn (n:=2) rfl (zq (zo (i:=1) (show List.Nodup (["number", "least", "most"]:List Str) by decide +kernel) rfl (Or.inl rfl) (Or.inr rfl)) (zq (zo (i:=2) (show List.Nodup (["number", "least", "most"]:List Str) by decide +kernel) rfl (Or.inl rfl) (Or.inr rfl)) y8))) y8)))) (λ_ _ _ _=>xf) (λ_ _ _ _=>(zh C_whole_in hr rfl (zi 0 (zi 1 (zi 2 zm)))))))) zv))))),?_⟩
 cases d with
 |tuple xs=>
  walk_at "ds";rw[List.length_map,zhr];simp only[je]at q
  by_cases c:xs.length=bs.length
  ·rw[if_neg (λz=>z (by rw[c]))];rw[decide_eq_true c,Bool.true_and]at q;refine⟨by rw[List.length_map,List.length_zip];omega,wb _ (λp:D×(Int×Int)=>.bool (inB p.2.1 p.2.2 p.1)) (λp hp k hk=>?_) ⟨(xs.zip bs).map λp=>inB p.2.1 p.2.2 p.1,?_,?_⟩⟩
   ·simp only[pD];walk_at "ds";exact⟨p.1,p.2.1,p.2.2,rfl,hk⟩
   ·have:=qb ((xs.zip bs).map λp=>inB p.2.1 p.2.2 p.1);rw[List.map_map]at this;exact this
   ·rw[List.all_map];exact q
  ·rw[if_pos (λz=>c (by omega))];rw[decide_eq_false c,Bool.false_and]at q;exact q
 |_=>walk_at "ds";exact q
def hB2:List (Int×Int):=[(1,1000),(0,1000)]
def zkh:D->Bool
 |.tuple xs=>decide (1<=xs.length) && decide (xs.length<=8) && xs.all (je hB2)
 |_=>false
def zbf:DSp:=λws Q=>∃(d:D),ws = [.val d]/\Q (.val (.bool (zkh d)))
theorem zga(B:Blt mg)(F:Fun K "road_good" "road_good" xt f fd){t_MOST_HOUSES:Tok}(G_MOST_HOUSES:mg "MOST_HOUSES" = some (.int 8 t_MOST_HOUSES)){ga_HOUSE_BOUNDS:Addr}(G_HOUSE_BOUNDS:mg "HOUSE_BOUNDS" = some (.ref ga_HOUSE_BOUNDS))(N_HOUSE_BOUNDS:∀H,Rep K H (.tuple [(.tuple [(.int 1),(.int 1000)]),(.tuple [(.int 0),(.int 1000)])]) (.ref ga_HOUSE_BOUNDS))(C_wholes_in:Cal P w K mg base 3 "wholes_in" ["thing", "bounds"] (yc K jf)):FnOk P w K mg base CX0 4 f fd ["thing"] (yc K zbf):=by
 refine F.dok zf3 (λws Q h=>?_) (λcdv A outer s H ws Q E hr h=>?_)
 ·obtain⟨d,rfl,_⟩:=h;rfl
 obtain⟨d,rfl,q⟩:=h;refine⟨_,(zc (xq (DWt.dt (qk (w4 (wn (DE.dv (zan (n := "tuple") za2 rfl B.isinstance boot_isinstance (zb 0) rfl B.tupleT boot_tuple)))) (qk (yr zk8 (DE.dv (zy va rfl B.len PySem.boot_len (zg (zb 0) zv))) (DE.dv zj) (yd _)) (vm (yr zh9 (DE.dv (zy va rfl B.len PySem.boot_len (zg (zb 0) zv))) (DE.dv (zfh (d:=.int 8) (v:=.int 8) rfl G_MOST_HOUSES ⟨_,rfl⟩ (λ_=>.int))) (yd _)))))) (ze (z0 wf)) yo) (ze (z0 (zy (zgw rfl) rfl B.all boot_all (zg (DE.dv (DF.de (qe rfl (N':=["house"]) (capt:=[]) (k:=1) (js:=[]) ⟨rfl,by decide,rfl,by decide,.nil,rfl,.nil,rfl,by decide⟩ (wt (zb 0)) (λ_ _ _ _=>(zo (i:=0) (show List.Nodup (["house"]:List Str) by decide +kernel) rfl (Or.inl rfl) (Or.inr rfl))) (λ_ _ _ _=>xf) (λ_ _ _ _=>(zh C_wholes_in hr rfl (zi 0 (yx (zfh (v:=.ref _) rfl G_HOUSE_BOUNDS rfl N_HOUSE_BOUNDS) zm))))))) zv))))),?_⟩
 cases d with
 |tuple xs=>
  walk_at "ds";simp only[zkh]at q
  by_cases c1:xs.length<1
  ·rw[if_pos (by omega)];rw[decide_eq_false (by omega:¬ 1<=xs.length),Bool.false_and,Bool.false_and]at q;exact q
  ·rw[if_neg (by omega)]
   by_cases c2:8<xs.length
   ·rw[if_pos (by omega)];rw[decide_eq_false (by omega:¬ xs.length<=8),Bool.and_false,Bool.false_and]at q;exact q
   ·rw[if_neg (by omega)];rw[decide_eq_true (by omega:1<=xs.length),decide_eq_true (by omega:xs.length<=8),Bool.true_and,Bool.true_and]at q;have:=wb (f:=lcF (zc1 0) zgy (zeq jf (zk7 0 (zjl (dC (PyData.tuple [PyData.tuple [PyData.int 1,PyData.int 1000],PyData.tuple [PyData.int 0,PyData.int 1000]])) zgu))) [none]) (id:D->D) (λx=>.bool (je hB2 x)) (as:=xs) (Q:=λxs=>∃ns,qw xs=some ns/\Q (Ret.val (PyData.bool (ns.all id)))) (λx hx k hk=>?_) ⟨xs.map (je hB2),?_,?_⟩
    ·rw[List.map_id]at this;exact⟨by omega,this⟩
    ·simp only[id];walk_at "ds";exact⟨x,hB2,rfl,by decide,hk⟩
    ·have:=qb (xs.map (je hB2));rw[List.map_map]at this;exact this
    ·rw[List.all_map];exact q
 |_=>walk_at "ds";exact q
def zty(n:Nat):D->Bool
 |.tuple xs=>xs.all whB && decide (ji (xs.map deI)=zi6 n)
 |_=>false
theorem zki:∀{xs:List D},xs.all whB=true->xs=(xs.map deI).map PyData.int
 |[],_=>rfl
 |x::xs,h=>by
  rw[List.all_cons,Bool.and_eq_true]at h;rw[List.map_cons,List.map_cons,<-zki h.2]
  cases x with
  |int i=>rfl
  |_=>exact absurd h.1 (λz=>(by cases z))
theorem zby(n:Nat):y9 0 n=(List.range n).map nI:=by
 unfold y9 nI;exact List.map_congr_left λi _=>by rw[Int.zero_add]
theorem zvr(n:Nat):y9 0 n=(zi6 n).map PyData.int:=by
 rw[zby];unfold zi6;rw[List.map_map];rfl
theorem ztz(as bs:List Int):PyData.eqv (.list (as.map PyData.int)) (.list (bs.map PyData.int))=decide (as=bs):=by
 have h:=zjy (.list (as.map PyData.int)) (.list (bs.map PyData.int)) (zg6 as) (zg6 bs)
 by_cases c:as=bs
 ·rw[decide_eq_true c];exact h.mpr (by rw[c])
 ·rw[decide_eq_false c];refine Bool.eq_false_iff.mpr λz=>c ?_;have:=h.mp z;injection this with this
  have e:∀l:List Int,(l.map PyData.int).map deI=l:=λl=>by rw[List.map_map];exact(List.map_congr_left λa _=>rfl).trans (List.map_id _)
  rw[<-e as,this,e]
def zab:DSp:=λws Q=>∃(rs:List (Int×Int)) (d:D),ws = [.val (.tuple (rs.map pD)),.val d]/\rs.length<=8/\(∀xs,d=.tuple xs->xs.length<64)/\Q (.val (.bool (zty rs.length d)))
theorem zd5(B:Blt mg)(F:Fun K "order_good" "order_good" xh f fd)(C_is_whole:Cal P w K mg base 1 "is_whole" ["thing"] (yc K qo)):FnOk P w K mg base CX0 2 f fd ["road", "thing"] (yc K zab):=by
 refine F.dok zd2 (λws Q h=>?_) (λcdv A outer s H ws Q E hr h=>?_)
 ·obtain⟨rs,d,rfl,_⟩:=h;rfl
 obtain⟨rs,d,rfl,hl,hx,q⟩:=h;refine⟨_,(zc (xq (DWt.dt (qk (w4 (wn (DE.dv (zan (n := "tuple") za2 rfl B.isinstance boot_isinstance (zb 1) rfl B.tupleT boot_tuple)))) (vm (w4 (wn (DE.dv (zy (zgw rfl) rfl B.all boot_all (zg (DE.dv (DF.de (qe rfl (N':=["number"]) (capt:=[]) (k:=1) (js:=[]) ⟨rfl,by decide,rfl,by decide,.nil,rfl,.nil,rfl,by decide⟩ (wt (zb 1)) (λ_ _ _ _=>(zo (i:=0) (show List.Nodup (["number"]:List Str) by decide +kernel) rfl (Or.inl rfl) (Or.inr rfl))) (λ_ _ _ _=>xf) (λ_ _ _ _=>(zh C_is_whole hr rfl (zi 0 zm)))))) zv)))))))) (ze (z0 wf)) yo) (ze (z0 (wv (zpl hr) (DE.dv (DF.de (zcz zfw rfl B.sorted boot_sorted (zg (zb 1) zv)))) (DE.dv (DF.de (zha rfl B.listT rfl B.range rfl (zt (zy va rfl B.len PySem.boot_len (zg (zb 0) zv)) yi)))) (yd _))))),?_⟩
 cases d with
 |tuple xs=>
  have hx:=hx xs rfl;walk_at "ds";simp only[zty]at q;have:=wb (f:=lcF (zc1 0) zgy (zeq qo (zk7 0 zgu)) [none]) (id:D->D) (λx=>.bool (whB x)) (as:=xs) (Q:=λxs_1=>∃ns,qw xs_1=some ns/\if ns.all id=false then Q (Ret.val (PyData.bool false)) else xs.length<64/\zfu xs λxs=>0<=((List.map pD rs).length:Int)/\((List.map pD rs).length:Int)<=1000000/\Lay (PyData.list xs)/\Lay (PyData.list (y9 0 ((List.map pD rs).length:Int).toNat))/\Q (Ret.val (PyData.bool ((PyData.list xs).eqv (PyData.list (y9 0 ((List.map pD rs).length:Int).toNat)))))) (λx hx k hk=>?_) ⟨xs.map whB,?_,?_⟩
  ·rw[List.map_id]at this;exact⟨by omega,this⟩
  ·simp only[id];walk_at "ds";exact⟨x,rfl,hk⟩
  ·have:=qb (xs.map whB);rw[List.map_map]at this;exact this
  ·rw[List.all_map]
   cases e:xs.all whB with
   |false=>
    rw[e]at q;rw[if_pos (by exact e)];exact q
   |true=>
    rw[e,Bool.true_and]at q;rw[if_neg (by rw[show xs.all (id ∘ whB)=true from e];decide)];refine⟨hx,.inl ⟨xs.map deI,zki e,Int.natCast_nonneg _,by rw[List.length_map];omega,wo _,?_⟩⟩;rw[List.length_map,Int.toNat_natCast,zvr,ztz];exact⟨wo _,q⟩
 |_=>walk_at "ds";exact q
theorem zt0{n:Nat}{o:List Nat}(h:o.Perm (List.range n)):zty n (otD o)=true:=by
 show((o.map nI).all whB && decide (ji ((o.map nI).map deI)=zi6 n))=true;rw[List.map_map,show(o.map (deI ∘ nI))=o.map λi:Nat=>(i:Int) from rfl,zl4 h,decide_eq_true rfl,Bool.and_true,List.all_map];exact List.all_eq_true.mpr λi _=>rfl
theorem zkj{rs:List (Int×Int)}{i:Nat}(h:i<rs.length):atI (rs.map pD) (i:Int)=some (pD (rs.getD i (0,0))):=by
 refine jy ?_;rw[List.getElem?_map,List.getD_eq_getElem?_getD,List.getElem?_eq_getElem h];rfl
def zax:DSp:=λws Q=>∃(rs:List (Int×Int)) (o:List Nat),ws = [.val (.tuple (rs.map pD)),.val (otD o)]/\rs.length<=8/\o.Perm (List.range rs.length)/\Q (.val (.tuple ((pick rs o).map pD)))
theorem zi7(B:Blt mg)(F:Fun K "ordered" "ordered" wl f fd)(C_order_good:Cal P w K mg base 2 "order_good" ["road", "thing"] (yc K zab)):FnOk P w K mg base CX0 3 f fd ["road", "order"] (yc K zax):=by
 refine F.dok zi3 (λws Q h=>?_) (λcdv A outer s H ws Q E hr h=>?_)
 ·obtain⟨rs,o,rfl,_⟩:=h;rfl
 obtain⟨rs,o,rfl,hl,hp,q⟩:=h;refine⟨_,(zc (xq (w4 (wn (DE.dv (zh C_order_good hr rfl (zi 0 (zi 1 zm)))))) (ze zg1) yo) (ze (z0 (wx ku rfl B.tupleT boot_tuple (zg (DE.dv (DF.de (qe rfl (N':=["number", "road"]) (capt:=["road"]) (k:=1) (js:=[0]) ⟨rfl,by decide,rfl,by decide,(.cons rfl .nil),rfl,(.cons rfl (Or.inl rfl) rfl (Or.inl rfl) .nil),rfl,by decide⟩ (wt (zb 1)) (λ_ _ _ _=>(zo (i:=0) (show List.Nodup (["number", "road"]:List Str) by decide +kernel) rfl (Or.inl rfl) (Or.inr rfl))) (λ_ _ _ _=>xf) (λ_ _ _ _=>(wm (zb 1) (yf 0) (λ_ _=>rfl)))))) zv))))),?_⟩;have ho:o.length=rs.length:=by rw[hp.length_eq,List.length_range]
 walk_at "ds";refine⟨rs,otD o,rfl,hl,λxs e=>by cases e;rw[List.length_map];omega,?_⟩;rw[zt0 hp];unfold otD;walk_at "ds";refine⟨by rw[List.length_map];omega,wb nI (λi=>pD (rs.getD i (0,0))) (λi hi k hk=>?_) ?_⟩
 ·simp only[nI];walk_at "ds";exact⟨_,zkj (List.mem_range.mp (hp.mem_iff.mp hi)),hk⟩
 ·unfold pick at q;rw[List.map_map]at q;exact q
def zac:DSp:=λws Q=>∃n:Nat,ws = [.val (.int n)]/\n<=6/\Q (.val (.list ((qt n n).map otD)))
theorem zt1(i:Nat)(o:List Nat):inD (nI i) (o.map nI)=decide (i∈o):=by
 have:=zbc (i:Int) (o.map λi:Nat=>(i:Int));rw[List.map_map]at this;have e:((i:Int)∈o.map λi:Nat=>(i:Int))↔i∈o:=by
  constructor
  ·intro h;obtain⟨j,hj,e⟩:=List.mem_map.mp h;have:j=i:=by omega
   exact this ▸ hj
  ·exact λh=>List.mem_map.mpr ⟨i,h,rfl⟩
 exact this.trans (decide_eq_decide.mpr e)
theorem zt2(o:List Nat):Lay (otD o):=by
 have:=zbr (o.map λi:Nat=>(i:Int));rw[List.map_map]at this;exact this
theorem zdp{α:Type}{f:D->(Option D->Prop)->Prop}(enc F:α->D)(p:α->Bool):∀{as:List α}{acc:List D}{Q:List D->Prop},(∀a∈as,∀k:Option D->Prop,k (if p a=true then some (F a) else none)->f (enc a) k)->acc.length+as.length<=sizeLine->Q (acc++(as.filter p).map F)->zfy f (as.map enc) acc Q
 |[],acc,Q,_,_,q=>by
  rw[List.filter_nil,List.map_nil,List.append_nil]at q;exact q
 |a::as,acc,Q,h,hl,q=>by
  rw[List.map_cons,zfy];refine h a List.mem_cons_self _ ?_;rw[List.length_cons]at hl;rw[List.filter_cons]at q
  cases e:p a with
  |true=>
   rw[e,if_pos rfl]at q;rw[if_pos rfl];exact⟨by omega,zdp enc F p (λb hb=>h b (List.mem_cons_of_mem _ hb)) (by rw[List.length_append,List.length_singleton];omega) (by rw[List.append_assoc];exact q)⟩
  |false=>
   rw[e,if_neg (by decide)]at q;rw[if_neg (by decide)];exact zdp enc F p (λb hb=>h b (List.mem_cons_of_mem _ hb)) (by omega) q
theorem zd6(B:Blt mg)(F:Fun K "all_orders" "all_orders" xj f fd):FnOk P w K mg base CX0 1 f fd ["many"] (yc K zac):=by
 refine F.dok sc_all_orders (λws Q h=>?_) (λcdv A outer s H ws Q E hr h=>?_)
 ·obtain⟨n,rfl,_⟩:=h;rfl
 obtain⟨n,rfl,hl,q⟩:=h;refine⟨_,(zc (yw (i:=1) sc_all_orders.nd rfl (Or.inl rfl) (DF.de (wu (zt (vk yi) yi zu1)))) (zc (qx PassesOwn.never rfl (kc rfl B.range (zt (yf 0) yi)) (zo (i:=2) sc_all_orders.nd rfl (Or.inl rfl)) (ze (ze3 (i:=1) sc_all_orders.nd rfl (Or.inl rfl) rfl (N':=["order", "number", "many"]) (capt:=["many"]) (k:=2) (js:=[0]) ⟨rfl,by decide,rfl,by decide,(.cons rfl .nil),rfl,(.cons rfl (Or.inl rfl) rfl (Or.inl rfl) .nil),rfl,by decide⟩ (wt (zb 1)) (λ_ _ _ _=>(zo (i:=0) (show List.Nodup (["order", "number", "many"]:List Str) by decide +kernel) rfl (Or.inl rfl) (Or.inr rfl))) (λ_ _ _ _=>xf) (λ_ _ _ _=>(kc rfl B.range (zt (yf 2) yi))) (λ_ _ _ _=>(zo (i:=1) (show List.Nodup (["order", "number", "many"]:List Str) by decide +kernel) rfl (Or.inl rfl) (Or.inr rfl))) (λ_ _ _ _=>(zjs (yr (zjo hr) (zb 1) (zb 0) rfl))) (λ_ _ _ _=>(yv xy (zb 0) (DE.dv (vk (zt (yf 1) yi)))))))) (ze (z0 (yf 1))))),?_⟩;walk_at "ds";refine⟨by omega,?_⟩;rw[Int.toNat_natCast,zby];refine wg (λds σ=>∃(k j:Nat) (u:Option W),k+j=n/\ds.length=j/\σ = [some (.val (.int n)),some (.val (.list ((qt n k).map otD))),u]) ?_ ?_ ⟨0,n,none,by omega,by simp,rfl⟩
 ·rintro d ds σ N ⟨k,j,u,e1,e2,rfl⟩ kk;rw[List.length_cons]at e2;walk_at "ds"
  have len:(qt n k).length<=46656:=by
   have h1:=zdo (n:=n) k;have h2:n ^ k<=6 ^ k:=Nat.pow_le_pow_left hl k;have h3:6 ^ k<=6 ^ 6:=Nat.pow_le_pow_right (by decide) (by omega);have h4:(6:Nat) ^ 6=46656:=by decide
   omega
  refine zf6 otD (λo=>(((List.range n).filter λi=>decide (i∉o)).map λi=>o ++ [i]).map otD) 6 16777216 (qt n k) [] _ (λo ho=>?_) (λo ho acc R hl2 hR=>?_) (by rw[List.length_nil];omega) ?_
  ·rw[List.length_map,List.length_map];have:=List.length_filter_le (λi=>decide (i∉o)) (List.range n);rw[List.length_range]at this;omega
  ·walk_at "ds";refine⟨by omega,?_⟩;rw[Int.toNat_natCast,zby];rw[List.map_map]at hR;refine zdp nI (λi=>otD (o ++ [i])) (λi=>decide (i∉o)) (λi hi K hK=>?_) (by rw[List.length_range,sizeLine_eq];omega) hR;unfold otD;walk_at "ds";refine⟨Lay.int _,zt2 o,?_⟩;rw[zt1];have ol:=(ords_mem.mp ho).2.1
   by_cases c:i∈o
   ·rw[decide_eq_true c,if_neg (by decide)];rw[decide_eq_false (by simpa using c),if_neg (by decide)]at hK;exact hK
   ·rw[decide_eq_false c,if_pos rfl];rw[decide_eq_true c,if_pos rfl]at hK;walk_at "ds";refine⟨?_,?_⟩
    ·rw[List.length_map,List.length_singleton];omega
    ·unfold otD at hK;rw[List.map_append]at hK;exact hK
  ·rw[List.nil_append,<-List.map_flatMap];exact kk _ ⟨k+1,j-1,_,by omega,by omega,rfl⟩
 ·rintro σ ⟨k,j,u,e1,e2,rfl⟩;rw[List.length_nil]at e2;have:k=n:=by omega
  subst this;walk_at "ds";exact q
def zad:DSp:=λws Q=>∃(rs:List (Int×Int)) (t:Int),ws = [.val (.tuple (rs.map pD)),.val (.int t)]/\rs.length<=6/\∀v,(∀rs',rs'.Perm rs->v<=vz rs' t 0)->(∃rs',rs'.Perm rs/\v=vz rs' t 0)->Q (.val (.int v))
theorem zd7(B:Blt mg)(F:Fun K "least_vain" "least_vain" xk f fd){t_MOST_ORDERED:Tok}(G_MOST_ORDERED:mg "MOST_ORDERED" = some (.int 6 t_MOST_ORDERED))(C_vain_of:Cal P w K mg base 3 "vain_of" ["road", "time"] (yc K jd))(C_ordered:Cal P w K mg base 3 "ordered" ["road", "order"] (yc K zax))(C_all_orders:Cal P w K mg base 1 "all_orders" ["many"] (yc K zac)):FnOk P w K mg base CX0 4 f fd ["road", "time"] (yc K zad):=by
 refine F.dok zd3 (λws Q h=>?_) (λcdv A outer s H ws Q E hr h=>?_)
 ·obtain⟨rs,t,rfl,_⟩:=h;rfl
 obtain⟨rs,t,rfl,hl,q⟩:=h;refine⟨_,(zc (xq (yr zh9 (DE.dv (zy va rfl B.len PySem.boot_len (zg (zb 0) zv))) (DE.dv (zfh (d:=.int 6) (v:=.int 6) rfl G_MOST_ORDERED ⟨_,rfl⟩ (λ_=>.int))) (yd _)) (ze zg1) yo) (ze (z0 (zy (ztc rfl) rfl B.min boot_min (zg (DE.dv (DF.de (qe rfl (N':=["order", "time", "road"]) (capt:=["time", "road"]) (k:=1) (js:=[1,0]) ⟨rfl,by decide,rfl,by decide,(.cons rfl (.cons rfl .nil)),rfl,(.cons rfl (Or.inl rfl) rfl (Or.inl rfl) (.cons rfl (Or.inl rfl) rfl (Or.inl rfl) .nil)),rfl,by decide⟩ (wt (DE.dv (zh C_all_orders hr rfl (yx (zy va rfl B.len PySem.boot_len (zg (zb 0) zv)) zm)))) (λ_ _ _ _=>(zo (i:=0) (show List.Nodup (["order", "time", "road"]:List Str) by decide +kernel) rfl (Or.inl rfl) (Or.inr rfl))) (λ_ _ _ _=>xf) (λ_ _ _ _=>(zh C_vain_of hr rfl (yx (zh C_ordered hr rfl (zi 2 (zi 0 zm))) (zi 1 zm))))))) zv))))),?_⟩;walk_at "ds";rw[List.length_map,if_neg (by omega)];refine⟨rs.length,rfl,hl,?_⟩;walk_at "ds";have len:(qt rs.length rs.length).length<=46656:=by
  have h1:=zdo (n:=rs.length) rs.length;have h2:rs.length ^ rs.length<=6 ^ rs.length:=Nat.pow_le_pow_left hl _;have h3:6 ^ rs.length<=6 ^ 6:=Nat.pow_le_pow_right (by decide) hl;have h4:(6:Nat) ^ 6=46656:=by decide
  omega
 refine⟨by rw[List.length_map];omega,wb otD (λo=>.int (vz (pick rs o) t 0)) (λo ho k hk=>?_) ⟨(qt rs.length rs.length).map λo=>vz (pick rs o) t 0,?_,?_,λm hm hle=>?_⟩⟩
 ·have hp:=ords_perm.mp ho;walk_at "ds";refine⟨rs,o,rfl,by omega,hp,?_⟩;walk_at "ds";exact⟨pick rs o,t,rfl,by rw[(pick_perm hp).length_eq];omega,hk⟩
 ·have:=kb ((qt rs.length rs.length).map λo=>vz (pick rs o) t 0);rw[List.map_map]at this;exact this
 ·rw[List.length_map];exact List.length_pos_of_mem (ords_perm.mpr (List.Perm.refl _))
 ·obtain⟨o,ho,rfl⟩:=List.mem_map.mp hm;refine q _ (λrs' h=>?_) ⟨pick rs o,pick_perm (ords_perm.mp ho),rfl⟩;obtain⟨o',h1,rfl⟩:=zl3 h;exact hle _ (List.mem_map.mpr ⟨o',ords_perm.mpr h1,rfl⟩)
theorem zhs(xs:List D)(h:xs ≠ []):x3 xs (some (-1)) none = [xs.getLast h]:=by
 unfold x3;rw[HT.sIx_none];have hp:=List.length_pos_iff.mpr h;have:HT.sIx xs.length 0 (some (-1))=xs.length-1:=by
  unfold HT.sIx;simp
  try omega
 rw[this];have e:=List.dropLast_concat_getLast h
 conv=>lhs;rw[<-e]
 rw[List.length_append,List.length_singleton,List.drop_append_of_le_length (by simp),List.length_dropLast];rw[List.drop_of_length_le (by simp),show xs.length-1+1-(xs.length-1+1-1)=1 by omega];rfl
theorem zt3{a b c d:Int}:([a,b] < [c,d])↔(a<c\/(a=c/\b<d)):=by
 rw[List.cons_lt_cons_iff,List.cons_lt_cons_iff];simp
def kp(rs:List (Int×Int))(i:Nat):Int:=(rs.getD i (0,0)).2
theorem zl5{n m:Nat}{p:List Nat}(h:(p ++ [m]).Perm (List.range n)):ji (p.map λi:Nat=>(i:Int))=((List.range n).filter (λi=>decide (i≠m))).map λi:Nat=>(i:Int):=by
 refine(zaq (List.Perm.map _ ?_) ?_).symm
 ·have h2:=h.filter λi=>decide (i≠m);have nd:=h.nodup_iff.mpr List.nodup_range;rw[List.nodup_append]at nd;rw[List.filter_append]at h2;have e1:p.filter (λi=>decide (i≠m))=p:=List.filter_eq_self.mpr λi hi=>decide_eq_true λz=>nd.2.2 i hi m List.mem_cons_self z;have e2 : [m].filter (λi=>decide (i≠m)) = []:=by simp
  rw[e1,e2,List.append_nil]at h2;exact h2.symm
 ·rw[List.pairwise_map];exact(List.pairwise_lt_range.filter _).imp λh=>by omega
def zae:DSp:=λws Q=>∃(rs:List (Int×Int)),ws = [.val (.tuple (rs.map pD))]/\1<=rs.length/\rs.length<=8/\∀m:Nat,m<rs.length->(∀i,i<rs.length->kp rs i<=kp rs m/\(kp rs i=kp rs m->i<=m))->Q (.val (otD ((List.range rs.length).filter (λi=>decide (i≠m)) ++ [m])))
theorem zd8(B:Blt mg){T:Addr}(F:Fun K "best_order" "best_order" xi f fd){c:Addr}(hB:jq mg base)(hC:PySem.W.CodeHd base c T)(hcd:fd.code=.ref c):FnOk P w K mg base CX0 4 f fd ["road"] (qm "best_order.<locals>.<lambda>" T (yc K zae)):=by
 refine F.dokT sc_best_order (λws Q h=>?_) (λA outer s H ws Q E hr hT h=>?_)
 ·obtain⟨rs,rfl,_⟩:=h;rfl
 obtain⟨rs,rfl,h1,h8,q⟩:=h;refine⟨_,(zc (yw (i:=1) sc_best_order.nd rfl (Or.inl rfl) (DF.de (zl0 (k:=0) (y := "number") (n := "road") (i:=0) rfl hr rfl B.sorted rfl B.range (zt (zy va rfl B.len PySem.boot_len (zg (zb 0) zv)) yi) hT hC hcd hB rfl rfl rfl (by exact⟨rfl,rfl,rfl,by decide +kernel,rfl,rfl,by decide +kernel⟩) rfl rfl rfl (by first|exact Or.inl rfl|exact Or.inr (Or.inl rfl)|exact Or.inr (Or.inr rfl)) (λ_ _ _ _=>rfl) (λA outer s H E f cd cs hr=>(vk (zt (wm (DE.dv (wm (zb 1) (yf 0) (λ_ _=>rfl))) zj (λ_ _=>rfl)) (zt (yf 0) yi))))))) (ze (z0 (wx ku rfl B.tupleT boot_tuple (zg (DE.dv (yv xy (DE.dv (DF.de (zcz zfw rfl B.sorted boot_sorted (zg (DE.dv (qc (zb 1) kw (v4 (zbj zj)))) zv)))) (DE.dv (qc (zb 1) (v4 (zbj zj)) kw)))) zv))))),?_⟩;walk_at "ds";rw[List.length_map,Int.toNat_natCast,zby];refine⟨by omega,by omega,λd=>[kp rs (deI d).toNat,deI d],λx hx=>?_,λys hp pw=>?_⟩
 ·obtain⟨i,hi,rfl⟩:=List.mem_map.mp hx;simp only[nI];walk_at "ds";refine⟨λz=>(by cases z),_,zkj (List.mem_range.mp hi),?_⟩;simp only[pD];walk_at "ds";exact⟨_,j3 _ _ _,rfl⟩
 ·obtain⟨o,po,rfl⟩:=zbx hp;have lo:o.length=rs.length:=by rw[po.length_eq,List.length_range]
  have hne:o ≠ []:=λz=>by rw[z]at lo;simp at lo;omega
  obtain⟨p,m,rfl⟩:∃p m,o=p ++ [m]:=⟨_,_,(List.dropLast_concat_getLast hne).symm⟩
  have hm:m<rs.length:=List.mem_range.mp (po.mem_iff.mp (by simp));rw[sliceD_dropLast,zhs _ (by simp)];have e1:((p ++ [m]).map nI).dropLast=p.map nI:=by rw[List.map_append];exact List.dropLast_concat
  have e2:((p ++ [m]).map nI).getLast (by simp)=nI m:=by simp
  rw[e1,e2,List.length_map];have lp:p.length<64:=by rw[List.length_append,List.length_singleton]at lo;omega
  refine⟨lp,.inl ⟨p.map λi:Nat=>(i:Int),by rw[List.map_map];rfl,?_⟩⟩;rw[zl5 po,List.map_map];have lf:=List.length_filter_le (λi=>decide (i≠m)) (List.range rs.length);rw[List.length_range]at lf;refine⟨by rw[List.length_map,List.length_singleton];omega,?_⟩;have:=q m hm λi hi=>?_
  ·unfold otD at this;rw[List.map_append]at this;exact this
  ·by_cases c:i=m
   ·subst c;exact⟨Int.le_refl _,λ_=>Nat.le_refl _⟩
   ·have hi2:i∈p:=by
     have:=po.mem_iff.mpr (List.mem_range.mpr hi);rcases List.mem_append.mp this with h|h
     ·exact h
     ·exact absurd (List.mem_singleton.mp h) c
    rw[List.map_append,List.pairwise_append]at pw;have:=pw.2.2 (nI i) (List.mem_map.mpr ⟨i,hi2,rfl⟩) (nI m) (by simp);simp only[nI,deI,Int.toNat_natCast,zt3]at this;omega
theorem zdq{α:Type}:∀(l:List α) {k:Nat} (h:k<l.length),(l[k]::l.eraseIdx k).Perm l
 |a::l,0,_=>.refl _
 |a::l,k+1,h=>by
  have:=zdq l (k:=k) (by simpa using h);exact(List.Perm.swap _ _ _).trans (this.cons a)
theorem zaf{α β:Type}(f:α->β):∀(l:List α) (k:Nat),(l.map f).eraseIdx k=(l.eraseIdx k).map f
 |[],_=>rfl
 |_::_,0=>rfl
 |a::l,k+1=>by simp[zaf f l k]
def zag:DSp:=λws Q=>∃n:Nat,ws = [.pen,.val (.int n)]/\n<=8/\∀o:List Nat,o.Perm (List.range n)->Q (.val (otD o))
theorem zd9(B:Blt mg)(F:Fun K "_law_order" "_law_order" xm f fd)(C__law_draw:Cal P w K mg base 2 "_law_draw" ["_law_pen", "_law_many"] (yc K x4)):FnOk P w K mg base CX0 3 f fd ["_law_pen", "_law_many"] (yc K zag):=by
 refine F.dok sc__law_order (λws Q h=>?_) (λcdv A outer s H ws Q E hr h=>?_)
 ·obtain⟨n,rfl,_⟩:=h;rfl
 obtain⟨n,rfl,h8,q⟩:=h;refine⟨_,(zc (kx (i:=2) sc__law_order.nd rfl (Or.inl rfl) (zha rfl B.listT rfl B.range rfl (zt (yf 1) yi))) (zc (kx (i:=3) sc__law_order.nd rfl (Or.inl rfl) (wu yi)) (zc (zg2 PassesOwn.never (yr (zgv hr) (zb 2) (DE.dv (DF.de (wu yi))) (yd _)) (ze (zp8 3 (zoj 2 (zh C__law_draw hr rfl (zi 0 (yx (zy va rfl B.len PySem.boot_len (zg (zb 2) zv)) zm))))))) (ze (z0 (wx ku rfl B.tupleT boot_tuple (zg (zb 3) zv))))))),?_⟩;walk_at "ds";rw[Int.toNat_natCast,zby];refine⟨by omega,by omega,?_⟩;refine zer (λm σ=>∃(l f:List Nat),l.length=m/\(f++l).Perm (List.range n)/\σ = [some .pen,some (.val (.int n)),some (.own (.lst (l.map nI))),some (.own (.lst (f.map nI)))]) n ⟨List.range n,[],List.length_range,List.Perm.refl _,rfl⟩ ?_;rintro m σ N ⟨l,f,hm,hp,rfl⟩ kk;have hl:f.length+l.length=n:=by
  have:=hp.length_eq
  rwa [List.length_append,List.length_range]at this
 walk_at "ds";have lay:Lay (PyData.list (l.map nI)):=by
  have:=wo (l.map λi:Nat=>(i:Int));rw[List.map_map]at this;exact this
 refine⟨lay,wo [],?_⟩;clear lay
 cases l with
 |nil=>
  rw[if_neg (by simp[PyData.eqv,PyData.eqvAll])];rw[List.append_nil]at hp;exact q f hp
 |cons n0 l0=>
  rw[if_pos (by simp[PyData.eqv,PyData.eqvAll,nI])];generalize hns:n0::l0=l at hm hp hl;have pos:0<l.length:=by rw[<-hns];simp
  rw[List.length_map];refine kg (by omega) (by omega) λz lz hz=>?_;have hzn:z.toNat<l.length:=by omega
  refine⟨rfl,rfl,_,z,z.toNat,nI l[z.toNat],rfl,rfl,rfl,by omega,by omega,?_,by simp[hzn],?_⟩
  ·rw[List.length_map];unfold seqIndex?;simp only[show ¬ z<0 by omega,if_false];rw[if_pos (by simp;omega)]
  refine⟨by rw[List.length_map];omega,kk (m-1) _ (by omega) ⟨l.eraseIdx z.toNat,f ++ [l[z.toNat]],by rw[List.length_eraseIdx,if_pos hzn,hm],?_,(by rw[List.map_append,zaf];rfl)⟩⟩;rw[List.append_assoc];exact((zdq l hzn).append_left f).trans hp
end
section
variable {P:Program}{w:World}{K:PySem.W.Frag}{mg:Str->Option Value}{base:Heap}{f:Addr}{fd:FuncData}
def zdr:Option Int->D
 |none=>.none
 |some x=>.int x
def dbL(c:Int):Int->List (Int×Int)->List (Option Int)
 |_,[]=>[]
 |f,r::z=>if max r.1 f+c<=r.1+r.2 then some (max r.1 f+c)::dbL c (max r.1 f+c) z else none::dbL c f z
def blL(c:Int):Int->List (Int×Int)->List Int
 |_,[]=>[]
 |f,r::z=>(max r.1 f+c)::blL c (max r.1 f+c) z
theorem zcm(c:Int):∀(z:List (Int×Int)) (f:Int),(dbL c f z).length=z.length
 |[],_=>rfl
 |r::z,f=>by
  rw[dbL]
  split
  ·rw[List.length_cons,zcm c z,List.length_cons]
  ·rw[List.length_cons,zcm c z,List.length_cons]
def jl:DSp:=λws Q=>∃(c:Int) (as:List (Int×Int)),ws = [.val (.int c),.val (.tuple (as.map pD))]/\as.length<=8/\Q (.new ((dbL c 0 as).map zdr))
theorem zcc(B:Blt mg)(F:Fun K "done_by_time" "done_by_time" yy f fd):FnOk P w K mg base CX0 1 f fd ["need", "askings"] (yc K jl):=by
 refine F.dok sc_done_by_time (λws Q h=>?_) (λcdv A outer s H ws Q E hr h=>?_)
 ·obtain⟨c,as,rfl,_⟩:=h;rfl
 obtain⟨c,as,rfl,hl,q⟩:=h;refine⟨_,(zc (yw (i:=2) sc_done_by_time.nd rfl (Or.inl rfl) zj) (zc (kx (i:=3) sc_done_by_time.nd rfl (Or.inl rfl) (wu yi)) (zc (qx PassesOwn.never rfl (zao (yf 1)) (xn (n:=2) rfl (zq (zo (i:=4) sc_done_by_time.nd rfl (Or.inl rfl)) (zq (zo (i:=5) sc_done_by_time.nd rfl (Or.inl rfl)) y8))) (zc (yw (i:=6) sc_done_by_time.nd rfl (Or.inl rfl) (yv xy (DE.dv (zy (zen rfl) rfl B.max boot_max (zg (zb 4) (zg (zb 2) zv)))) (zb 0))) (ze (xq (yr zfj (zb 6) (DE.dv (yv xy (zb 4) (zb 5))) (yd _)) (zc (vg 3 (yf 6)) (ze (yw (i:=2) sc_done_by_time.nd rfl (Or.inl rfl) (yf 6)))) (ze (vg 3 qu)))))) (ze (zcj 3))))),?_⟩;walk_at "ds";refine wg (λds σ=>∃(z:List (Int×Int)) (acc:List D) (f:Int) (u4 u5 u6:Option W),ds=z.map pD/\acc.length+z.length<=8/\acc++(dbL c f z).map zdr=(dbL c 0 as).map zdr/\σ = [some (.val (.int c)),some (.val (.tuple (as.map pD))),some (.val (.int f)),some (.own (.lst acc)),u4,u5,u6]) ?_ ?_ ⟨as,[],0,none,none,none,rfl,by simpa using hl,rfl,rfl⟩
 ·rintro d ds σ N ⟨z,acc,f,u4,u5,u6,e,hl2,ee,rfl⟩ k
  cases z with
  |nil=>cases e
  |cons r z=>
   cases e;rw[List.length_cons]at hl2;rw[dbL]at ee;simp only[pD];walk_at "ds"
   by_cases c2:max r.1 f+c<=r.1+r.2
   ·rw[if_pos c2]at ee ⊢;exact⟨by omega,k _ ⟨z,acc ++ [.int (max r.1 f+c)],_,_,_,_,rfl,by rw[List.length_append,List.length_singleton];omega,by rw[List.append_assoc];exact ee,rfl⟩⟩
   ·rw[if_neg c2]at ee ⊢;exact⟨by omega,k _ ⟨z,acc ++ [.none],_,_,_,_,rfl,by rw[List.length_append,List.length_singleton];omega,by rw[List.append_assoc];exact ee,rfl⟩⟩
 ·rintro σ ⟨z,acc,f,u4,u5,u6,e,hl2,ee,rfl⟩
  cases z with
  |cons r z=>cases e
  |nil=>
   rw[dbL,List.map_nil,List.append_nil]at ee;subst ee;walk_at "ds";exact q
def vt:DSp:=λws Q=>∃(c:Int) (as:List (Int×Int)),ws = [.val (.int c),.val (.tuple (as.map pD))]/\as.length<=8/\Q (.new ((blL c 0 as).map PyData.int))
theorem zcd(B:Blt mg)(F:Fun K "done_blindly" "done_blindly" yz f fd):FnOk P w K mg base CX0 1 f fd ["need", "askings"] (yc K vt):=by
 refine F.dok sc_done_blindly (λws Q h=>?_) (λcdv A outer s H ws Q E hr h=>?_)
 ·obtain⟨c,as,rfl,_⟩:=h;rfl
 obtain⟨c,as,rfl,hl,q⟩:=h;refine⟨_,(zc (yw (i:=2) sc_done_blindly.nd rfl (Or.inl rfl) zj) (zc (kx (i:=3) sc_done_blindly.nd rfl (Or.inl rfl) (wu yi)) (zc (qx PassesOwn.never rfl (zao (yf 1)) (xn (n:=2) rfl (zq (zo (i:=4) sc_done_blindly.nd rfl (Or.inl rfl)) (zq (zo (i:=5) sc_done_blindly.nd rfl (Or.inl rfl)) y8))) (zc (yw (i:=2) sc_done_blindly.nd rfl (Or.inl rfl) (yv xy (DE.dv (zy (zen rfl) rfl B.max boot_max (zg (zb 4) (zg (zb 2) zv)))) (zb 0))) (ze (vg 3 (yf 2))))) (ze (zcj 3))))),?_⟩;walk_at "ds";refine wg (λds σ=>∃(z:List (Int×Int)) (acc:List D) (f:Int) (u4 u5:Option W),ds=z.map pD/\acc.length+z.length<=8/\acc++(blL c f z).map PyData.int=(blL c 0 as).map PyData.int/\σ = [some (.val (.int c)),some (.val (.tuple (as.map pD))),some (.val (.int f)),some (.own (.lst acc)),u4,u5]) ?_ ?_ ⟨as,[],0,none,none,rfl,by simpa using hl,rfl,rfl⟩
 ·rintro d ds σ N ⟨z,acc,f,u4,u5,e,hl2,ee,rfl⟩ k
  cases z with
  |nil=>cases e
  |cons r z=>
   cases e;rw[List.length_cons]at hl2;rw[blL]at ee;simp only[pD];walk_at "ds";exact⟨by omega,k _ ⟨z,acc ++ [.int (max r.1 f+c)],_,_,_,rfl,by rw[List.length_append,List.length_singleton];omega,by rw[List.append_assoc];exact ee,rfl⟩⟩
 ·rintro σ ⟨z,acc,f,u4,u5,e,hl2,ee,rfl⟩
  cases z with
  |cons r z=>cases e
  |nil=>
   rw[blL,List.map_nil,List.append_nil]at ee;subst ee;walk_at "ds";exact q
def zah(c:Int):Int->List (Int×Int)->List Bool
 |_,[]=>[]
 |f,r::z=>decide (r.1+r.2<max r.1 f+c)::zah c (max r.1 f+c) z
theorem zht(c:Int):∀(z:List (Int×Int)) (f:Int),((blL c f z).zip z).map (λp=>decide (p.2.1+p.2.2<p.1))=zah c f z
 |[],_=>rfl
 |r::z,f=>by rw[blL,zah,List.zip_cons_cons,List.map_cons,zht c z]
def jm:DSp:=λws Q=>∃(c:Int) (as:List (Int×Int)),ws = [.val (.int c),.val (.tuple (as.map pD))]/\as.length<=8/\Q (.val (.int (((zah c 0 as).count true:Nat):Int)))
theorem zce(B:Blt mg)(F:Fun K "vain_askings" "vain_askings" y0 f fd)(C_done_blindly:Cal P w K mg base 1 "done_blindly" ["need", "askings"] (yc K vt)):FnOk P w K mg base CX0 2 f fd ["need", "askings"] (yc K jm):=by
 refine F.dok sc_vain_askings (λws Q h=>?_) (λcdv A outer s H ws Q E hr h=>?_)
 ·obtain⟨c,as,rfl,_⟩:=h;rfl
 obtain⟨c,as,rfl,hl,q⟩:=h;refine⟨_,(zc (zg3 (i:=2) sc_vain_askings.nd rfl (Or.inl rfl) rfl (N':=["end", "beat", "time"]) (capt:=[]) (k:=3) (js:=[]) ⟨rfl,by decide,rfl,by decide,.nil,rfl,.nil,rfl,by decide⟩ (zci rfl B.zip (zg (DE.dv (zh C_done_blindly hr rfl (zi 0 (zi 1 zm)))) (zg (zb 1) zv))) (λ_ _ _ _=>(xn (n:=2) rfl (zq (zo (i:=0) (show List.Nodup (["end", "beat", "time"]:List Str) by decide +kernel) rfl (Or.inl rfl) (Or.inr rfl)) (zq (xn (n:=2) rfl (zq (zo (i:=1) (show List.Nodup (["end", "beat", "time"]:List Str) by decide +kernel) rfl (Or.inl rfl) (Or.inr rfl)) (zq (zo (i:=2) (show List.Nodup (["end", "beat", "time"]:List Str) by decide +kernel) rfl (Or.inl rfl) (Or.inr rfl)) y8))) y8)))) (λ_ _ _ _=>xf) (λ_ _ _ _=>(wv zh9 (zb 0) (DE.dv (yv xy (zb 1) (zb 2))) (yd _)))) (ze (z0 (zlk (zb 2) wf)))),?_⟩;walk_at "ds";refine⟨c,as,rfl,hl,?_⟩;walk_at "ds";rw[j4];refine⟨by rw[List.length_map,List.length_zip];omega,wb _ (λp:Int×(Int×Int)=>.bool (decide (p.2.1+p.2.2<p.1))) (λp hp k hk=>?_) ⟨zah c 0 as,?_,q⟩⟩
 ·simp only[pD];walk_at "ds";exact hk
 ·rw[<-zht,List.map_map];rfl
end
section
variable {P:Program}{w:World}{K:PySem.W.Frag}{mg:Str->Option Value}{base:Heap}{f:Addr}{fd:FuncData}
def atB(as:List (Int×Int))(i:Int):Option (Int×Int):=if 0<=i/\i<as.length then as[i.toNat]? else none
def egB(c:Int)(as:List (Int×Int))(f:Int):D->Bool
 |.tuple [.int i,.int b]=>match atB as i with
  |some r=>decide (max r.1 f<=b/\b<=r.1+r.2-c)
  |none=>false
 |_=>false
theorem zds{as:List (Int×Int)}{i:Int}(h:0<=i/\i<as.length):∃r,atB as i=some r/\atI (as.map pD) i=some (pD r)/\as[i.toNat]?=some r:=by
 have hi:i.toNat<as.length:=by omega
 refine⟨as[i.toNat],by unfold atB;rw[if_pos h];simp[hi],?_,by simp[hi]⟩;have:=jy (xs:=as.map pD) (j:=i.toNat) (v:=pD as[i.toNat]) (by simp[hi]);rw[Int.toNat_of_nonneg h.1]at this;exact this
def zai:DSp:=λws Q=>∃(c:Int) (as:List (Int×Int)) (d:D) (f:Int),ws = [.val (.int c),.val (.tuple (as.map pD)),.val d,.val (.int f)]/\Q (.val (.bool (egB c as f d)))
theorem zea(B:Blt mg)(F:Fun K "entry_good" "entry_good" xl f fd)(C_whole_in:Cal P w K mg base 2 "whole_in" ["thing", "least", "most"] (yc K ju)):FnOk P w K mg base CX0 3 f fd ["need", "askings", "thing", "free"] (yc K zai):=by
 refine F.dok sc_entry_good (λws Q h=>?_) (λcdv A outer s H ws Q E hr h=>?_)
 ·obtain⟨c,as,d,f,rfl,_⟩:=h;rfl
 obtain⟨c,as,d,f,rfl,q⟩:=h;refine⟨_,(zc (xq (DWt.dt (qk (w4 (wn (DE.dv (zan (n := "tuple") za2 rfl B.isinstance boot_isinstance (zb 2) rfl B.tupleT boot_tuple)))) (vm (yr (zgv hr) (DE.dv (zy va rfl B.len PySem.boot_len (zg (zb 2) zv))) (DE.dv zj) (yd _))))) (ze (z0 wf)) yo) (zc (xq (w4 (wn (DE.dv (zh C_whole_in hr rfl (yx (wm (zb 2) zj (λ_ _=>rfl)) (yx zj (yx (yv zcx (DE.dv (zy va rfl B.len PySem.boot_len (zg (zb 1) zv))) (DE.dv zj)) zm) ko)))))) (ze (z0 wf)) yo) (zc (zii (wm (zb 1) (wm (zb 2) zj (λ_ _=>rfl)) (λ_ _=>rfl)) (xn (n:=2) rfl (zq (zo (i:=4) sc_entry_good.nd rfl (Or.inl rfl)) (zq (zo (i:=5) sc_entry_good.nd rfl (Or.inl rfl)) y8)))) (ze (z0 (zh C_whole_in hr rfl (yx (wm (zb 2) zj (λ_ _=>rfl)) (yx (zy (zen rfl) rfl B.max boot_max (zg (zb 4) (zg (zb 3) zv))) (yx (yv zcx (DE.dv (yv xy (zb 4) (zb 5))) (zb 0)) zm))))))))),?_⟩
 cases d with
 |tuple xs=>
  match xs,q with
  |[],q=>walk_at "ds";exact q
  |[a],q=>
   rw[show egB c as f (.tuple [a])=false by cases a <;> rfl]at q;walk_at "ds"
   try rw[if_pos (by decide)]
   exact q
  |a::b::x::r,q=>
   rw[show egB c as f (.tuple (a::b::x::r))=false by cases a <;>(try rfl) <;> cases b <;> rfl]at q;walk_at "ds";rw[if_pos (by omega)];exact q
  |[a,b],q=>
   walk_at "ds";refine⟨_,ke _ _,?_⟩;walk_at "ds";refine⟨_,_,_,rfl,?_⟩;rw[List.length_map]
   cases a with
   |int i=>
    by_cases h:0<=i/\i<as.length
    ·obtain⟨r,e1,e2,_⟩:=zds h;rw[show inB 0 ((as.length:Int)-1) (.int i)=true by simp only[inB,decide_eq_true_eq];omega]
     have eg:egB c as f (.tuple [.int i,b])=inB (max r.1 f) (r.1+r.2-c) b:=by
      cases b with
      |int x=>simp only[egB,e1,inB]
      |_=>rfl
     rw[eg]at q;walk_at "ds";refine⟨_,ke _ _,?_⟩;walk_at "ds";refine⟨_,e2,?_⟩;simp only[pD];walk_at "ds";refine⟨_,j3 _ _ _,?_⟩;walk_at "ds";exact⟨_,_,_,rfl,q⟩
    ·rw[show inB 0 ((as.length:Int)-1) (.int i)=false by simp only[inB,decide_eq_false_iff_not];omega]
     have eg:egB c as f (.tuple [.int i,b])=false:=by
      cases b with
      |int x=>simp only[egB,atB,if_neg h]
      |_=>rfl
     rw[eg]at q;walk_at "ds";exact q
   |_=>walk_at "ds";exact q
 |_=>walk_at "ds";exact q
def fsI:D->Int
 |.tuple [.int i,.int _]=>i
 |_=>0
def snI:D->Int
 |.tuple [.int _,.int b]=>b
 |_=>0
def gS(c:Int)(as:List (Int×Int)):Int->List Int->List D->Bool
 |_,_,[]=>true
 |f,tk,x::xs=>egB c as f x && !decide (fsI x∈tk) && gS c as (snI x+c) (tk ++ [fsI x]) xs
theorem zqr{c:Int}{as:List (Int×Int)}{f:Int}{d:D}(h:egB c as f d=true):∃i b r,d=.tuple [.int i,.int b]/\(0<=i/\i<as.length)/\atB as i=some r/\max r.1 f<=b/\b+c<=r.1+r.2:=by
 unfold egB at h
 split at h
 ·next i b=>
  by_cases hi:0<=i/\i<as.length
  ·obtain⟨r,e1,_⟩:=zds hi;rw[e1]at h;have:=of_decide_eq_true h;exact⟨i,b,r,rfl,hi,e1,this.1,by omega⟩
  ·unfold atB at h;rw[if_neg hi]at h
   cases h
 ·cases h
def sgB(c:Int)(as:List (Int×Int)):D->Bool
 |.tuple xs=>gS c as 0 [] xs
 |_=>false
def kl:DSp:=λws Q=>∃(c:Int) (as:List (Int×Int)) (d:D),ws = [.val (.int c),.val (.tuple (as.map pD)),.val d]/\(∀xs,d=.tuple xs->xs.length<=100)/\Q (.val (.bool (sgB c as d)))
theorem zbz(B:Blt mg)(F:Fun K "schedule_good" "schedule_good" yt f fd)(C_entry_good:Cal P w K mg base 3 "entry_good" ["need", "askings", "thing", "free"] (yc K zai)):FnOk P w K mg base CX0 4 f fd ["need", "askings", "thing"] (yc K kl):=by
 refine F.dok sc_schedule_good (λws Q h=>?_) (λcdv A outer s H ws Q E hr h=>?_)
 ·obtain⟨c,as,d,rfl,_⟩:=h;rfl
 obtain⟨c,as,d,rfl,hx,q⟩:=h;refine⟨_,(zc (xq (w4 (wn (DE.dv (zan (n := "tuple") za2 rfl B.isinstance boot_isinstance (zb 2) rfl B.tupleT boot_tuple)))) (ze (z0 wf)) yo) (zc (kx (i:=3) sc_schedule_good.nd rfl (Or.inl rfl) (wu yi)) (zc (yw (i:=4) sc_schedule_good.nd rfl (Or.inl rfl) zj) (zc (qx PassesOwn.never rfl (zao (yf 2)) (zo (i:=5) sc_schedule_good.nd rfl (Or.inl rfl)) (zc (xq (DWt.dt (qk (w4 (wn (DE.dv (zh C_entry_good hr rfl (zi 0 (zi 1 (zi 5 (zi 4 zm)))))))) (vm (yr (zss hr) (DE.dv (wm (zb 5) zj (λ_ _=>rfl))) (zb 3) rfl)))) (ze (z0 wf)) yo) (zc (vg 3 (wm (zb 5) zj (λ_ _=>rfl))) (ze (yw (i:=4) sc_schedule_good.nd rfl (Or.inl rfl) (yv xy (DE.dv (wm (zb 5) zj (λ_ _=>rfl))) (zb 0))))))) (ze (z0 wf)))))),?_⟩
 cases d with
 |tuple xs=>
  have hx:=hx xs rfl
  replace q:Q (.val (.bool (gS c as 0 [] xs))):=q
  walk_at "ds";refine wg (λds σ=>∃(tk:List Int) (f:Int) (u5:Option W),gS c as f tk ds=gS c as 0 [] xs/\tk.length+ds.length<=100/\σ = [some (.val (.int c)),some (.val (.tuple (as.map pD))),some (.val (.tuple xs)),some (.own (.lst (tk.map PyData.int))),some (.val (.int f)),u5]) ?_ ?_ ⟨[],0,none,rfl,by simpa using hx,rfl⟩
  ·rintro d ds σ N ⟨tk,f,u5,eg,hl,rfl⟩ k;rw[gS]at eg;rw[List.length_cons]at hl;walk_at "ds";refine⟨c,as,d,f,rfl,?_⟩
   cases e1:egB c as f d with
   |false=>
    rw[e1]at eg;rw[<-eg]at q;exact q
   |true=>
    obtain⟨i,b,r,rfl,_⟩:=zqr e1;rw[e1]at eg
    replace eg:(true && !decide (i∈tk) && gS c as (b+c) (tk ++ [i]) ds)=gS c as 0 [] xs:=eg
    walk_at "ds";refine⟨_,ke _ _,Lay.int _,wo _,?_⟩;rw[zbc]
    by_cases m:i∈tk
    ·rw[decide_eq_true m]at eg;rw[<-eg]at q;rw[decide_eq_true m,if_pos rfl];exact q
    ·rw[decide_eq_false m]at eg;rw[decide_eq_false m,if_neg (by decide)];refine⟨_,ke _ _,by rw[List.length_map];omega,_,j3 _ _ _,?_⟩;walk_at "ds";exact k _ ⟨tk ++ [i],b+c,_,by simpa using eg,by rw[List.length_append,List.length_singleton];omega,(by rw[List.map_append];rfl)⟩
  ·rintro σ ⟨tk,f,u5,eg,hl,rfl⟩;rw[<-eg]at q;walk_at "ds";exact q
 |_=>walk_at "ds";exact q
def ffI(c:Int):Int->List D->Int
 |f,[]=>f
 |_,x::xs=>ffI c (snI x+c) xs
theorem zkk(c:Int)(y:D):∀(xs:List D) (f:Int),ffI c f (xs ++ [y])=snI y+c
 |[],_=>rfl
 |x::xs,f=>zkk c y xs _
theorem zkl(c:Int)(as:List (Int×Int))(y:D):∀(xs:List D) (f:Int) (tk:List Int),gS c as f tk (xs ++ [y])=(gS c as f tk xs && (egB c as (ffI c f xs) y && !decide (fsI y∈tk++xs.map fsI)))
 |[],f,tk=>by simp[gS,ffI]
 |x::xs,f,tk=>by
  rw[List.cons_append,gS,gS,zkl c as y xs,ffI,List.map_cons,List.append_assoc,List.singleton_append];simp only[Bool.and_assoc]
theorem zvs(c:Int)(S:Sc):ffI c 0 (S.map qD)=fre c S:=by
 rcases List.eq_nil_or_concat S with rfl |⟨T,p,rfl⟩
 ·rfl
 ·rw[List.concat_eq_append,List.map_append,List.map_cons,List.map_nil,zkk,vi];rfl
theorem zvt{c:Int}{as:List (Int×Int)}{S:Sc}(h:Okk c as S):sgB c as (scD S)=true:=by
 show gS c as 0 [] (S.map qD)=true
 induction h with
 |nil=>rfl
 |@snoc S i b r h e n l m ih=>
  have hi:=(List.getElem?_eq_some_iff.mp e).1;rw[List.map_append,List.map_cons,List.map_nil,zkl,ih,zvs];obtain⟨r',e1,_,e3⟩:=zds (as:=as) (i:=(i:Int)) ⟨by omega,by omega⟩;rw[Int.toNat_natCast,e]at e3
  cases e3;have ev:egB c as (fre c S) (qD (i,b))=true:=by
   show egB c as (fre c S) (.tuple [.int (i:Int),.int b])=true;simp only[egB,e1];exact decide_eq_true (by omega)
  rw[ev,List.nil_append,show fsI (qD (i,b))=(i:Int) from rfl,List.map_map,show(S.map (fsI ∘ qD))=S.map λp=>(p.1:Int) from rfl,decide_eq_false λz=>n ((zbv S i).mp z)];rfl
theorem zt4(S:Sc)(h:S.length<=8):∀xs,scD S=.tuple xs->xs.length<=100:=λxs e=>by
 cases e;rw[List.length_map];omega
def jn:DSp:=λws Q=>ws = [.pen]/\∀(c:Int) (as:List (Int×Int)),1<=c->c<=1000->as.length<=8->Q (.val (.tuple [.int c,.tuple (as.map pD)]))
theorem zcf(B:Blt mg)(F:Fun K "_law_askings" "_law_askings" y6 f fd)(C__law_draw:Cal P w K mg base 2 "_law_draw" ["_law_pen", "_law_many"] (yc K x4)):FnOk P w K mg base CX0 3 f fd ["_law_pen"] (yc K jn):=by
 refine F.dok sc__law_askings (λws Q h=>?_) (λcdv A outer s H ws Q E hr h=>?_)
 ·obtain⟨rfl,_⟩:=h;rfl
 obtain⟨rfl,q⟩:=h;refine⟨_,(zc (zps (i:=1) (j:=2) (k:=3) rfl sc__law_askings.nd rfl rfl rfl (by decide) (by decide) (by decide) rfl rfl rfl (zt (zh C__law_draw hr rfl (zi 0 (yx zj zm ko))) (zt (wm (DE.dv (DF.de (wu (zt zj (zt zj (zt zj yi ko) ko) ko)))) (zh C__law_draw hr rfl (zi 0 (yx zj zm ko))) (λ_ _=>rfl)) (zt (wm (DE.dv (DF.de (wu (zt zj (zt zj (zt zj yi ko) ko) ko)))) (zh C__law_draw hr rfl (zi 0 (yx zj zm ko))) (λ_ _=>rfl)) yi))) rfl) (zc (yw (i:=4) sc__law_askings.nd rfl (Or.inl rfl) (yv xy (DE.dv zj) (DE.dv (zh C__law_draw hr rfl (zi 0 (zi 2 zm)))))) (zc (zpu (i:=5) (j:=6) rfl sc__law_askings.nd rfl rfl (by decide) rfl rfl (zta (zh C__law_draw hr rfl (zi 0 (yx zj zm ko))) (ztb (wu yi) zs9 zwd)) rfl) (zc (qx PassesOwn.never rfl (kc rfl B.range (zt (yf 1) yi)) (zo (i:=7) sc__law_askings.nd rfl (Or.inl rfl)) (zc (yw (i:=5) sc__law_askings.nd rfl (Or.inl rfl) (yv xy (zb 5) (DE.dv (zh C__law_draw hr rfl (zi 0 (yx (yv xy (zb 2) (DE.dv zj)) zm)))))) (ze (vg 6 (vk (zt (yf 5) (zt (zh C__law_draw hr rfl (zi 0 (yx (yv xy (DE.dv (yv xy (DE.dv (yv zm7 (zb 3) (zb 4))) (zb 2))) (DE.dv zj)) zm))) yi))))))) (ze (z0 (vk (zt (yf 4) (zt (wx ku rfl B.tupleT boot_tuple (zg (zb 6) zv)) yi))))))))),?_⟩;walk_at "ds";refine kg (by first|decide|omega) (by first|decide|omega) λa la ha=>?_;walk_at "ds";refine kg (by first|decide|omega) (by first|decide|omega) λx lx hx=>?_;walk_at "ds";refine zn0 (ns:=[3,12,1000]) (lo:=3) (hi:=1000) (by omega) (by simp only[List.length_cons,List.length_nil];omega) (by intro z hz;simp only[List.mem_cons,List.not_mem_nil,or_false]at hz;omega) λw lw hw=>?_;walk_at "ds";refine kg (by first|decide|omega) (by first|decide|omega) λy ly hy=>?_;walk_at "ds";refine zn0 (ns:=[1,2,4]) (lo:=1) (hi:=4) (by omega) (by simp only[List.length_cons,List.length_nil];omega) (by intro z hz;simp only[List.mem_cons,List.not_mem_nil,or_false]at hz;omega) λt lt ht=>?_;walk_at "ds";refine kg (by first|decide|omega) (by first|decide|omega) λb lb hb=>?_;walk_at "ds";refine kg (by first|decide|omega) (by first|decide|omega) λz lz hz=>?_
 walk_at "ds";refine⟨by omega,?_⟩;have hlen:(y9 0 a.toNat).length=a.toNat:=by simp[y9]
 generalize y9 0 a.toNat=ts at hlen;refine wg (λds σ=>∃(s:List (Int×Int)) (at_:Int) (u:Option W),σ = [some .pen,some (.val (.int a)),some (.val (.int w)),some (.val (.int t)),some (.val (.int (1+b))),some (.val (.int at_)),some (.own (.lst (s.map pD))),u]/\s.length+ds.length<=8) ?_ ?_ ⟨[],_,none,rfl,by rw[hlen,List.length_nil];omega⟩
 ·rintro d ds σ N ⟨s,at_,u,rfl,hl⟩ k;rw[List.length_cons]at hl;walk_at "ds";have m0:0<=t *(1+b):=Int.mul_nonneg (by omega) (by omega);have m1:t *(1+b)<=4 * 1000:=Int.mul_le_mul (by omega) (by omega) (by omega) (by omega);refine kg (by first|decide|omega) (by first|decide|omega) λe le he=>?_;walk_at "ds";refine⟨zi4 (by omega) (by omega) (by omega) (by omega),?_⟩;generalize t *(1+b)=y at m0 m1;refine kg (by omega) (by omega) λg lg hg=>?_;rw[List.length_map];exact⟨by omega,k _ ⟨s ++ [(at_+e,g)],_,_,(by rw[List.map_append];rfl),by rw[List.length_append,List.length_singleton];omega⟩⟩
 ·rintro σ ⟨s,at_,u,rfl,hl⟩;walk_at "ds";exact q _ s (by omega) (by omega) (by simp only[List.length_nil]at hl;omega)
def scL(c:Int):Nat->Int->List (Int×Int)->Sc
 |_,_,[]=>[]
 |k,f,r::z=>if max r.1 f+c<=r.1+r.2 then (k,max r.1 f)::scL c (k+1) (max r.1 f+c) z else scL c (k+1) f z
theorem zgb(c:Int):∀(z:List (Int×Int)) (k:Nat) (f:Int),(scL c k f z).length<=z.length
 |[],_,_=>Nat.le_refl _
 |r::z,k,f=>by
  rw[scL,List.length_cons]
  split
  ·rw[List.length_cons];have:=zgb c z (k+1) (max r.1 f+c);omega
  ·have:=zgb c z (k+1) f;omega
theorem zhu{α:Type}(g:α->D):∀(os:List α) (k:Nat),vx k (os.map g)=((List.range' k os.length).zip os).map λp=>PyData.tuple [.int (p.1:Int),g p.2]
 |[],k=>rfl
 |x::os,k=>by
  rw[List.map_cons,vx,zhu g os (k+1),List.length_cons,List.range'_succ,List.zip_cons_cons,List.map_cons]
def pkF(c:Int)(p:Nat×Option Int):Option D:=match p.2 with
 |none=>none
 |some x=>some (.tuple [.int (p.1:Int),.int (x-c)])
theorem zor(c:Int):∀(z:List (Int×Int)) (k:Nat) (f:Int),((List.range' k (dbL c f z).length).zip (dbL c f z)).filterMap (pkF c)=(scL c k f z).map qD
 |[],_,_=>rfl
 |r::z,k,f=>by
  rw[dbL,scL]
  by_cases h:max r.1 f+c<=r.1+r.2
  ·rw[if_pos h,if_pos h,List.length_cons,List.range'_succ,List.zip_cons_cons,List.filterMap_cons];simp only[pkF];rw[show max r.1 f+c-c=max r.1 f by omega];have:=zor c z (k+1) (max r.1 f+c);rw[List.map_cons,<-this];rfl
  ·rw[if_neg h,if_neg h,List.length_cons,List.range'_succ,List.zip_cons_cons,List.filterMap_cons];exact zor c z (k+1) f
theorem zos(c:Int)(as:List (Int×Int)):∀(z p:List (Int×Int)) (P:Sc) (f:Int),p++z=as->Okk c as P->fre c P=f->(∀i∈wj P,i<p.length)->Okk c as (P++scL c p.length f z)
 |[],p,P,f,_,h,_,_=>by
  rw[scL,List.append_nil];exact h
 |r::z,p,P,f,e,h,hf,lt=>by
  have er:as[p.length]?=some r:=by rw[<-e];simp
  have ap:(p ++ [r])++z=as:=by rw[List.append_assoc];exact e
  have el:(p ++ [r]).length=p.length+1:=by simp
  rw[scL]
  by_cases k:max r.1 f+c<=r.1+r.2
  ·rw[if_pos k]
   have:=zos c as z (p ++ [r]) (P ++ [(p.length,max r.1 f)]) (max r.1 f+c) ap (.snoc h er (λhm=>by have:=lt _ hm;omega) (by rw[hf];exact Int.le_refl _) k) (vi ..) λi hi=>by
    rw[ki]at hi;rw[el];rcases List.mem_append.mp hi with hi|hi
    ·have:=lt i hi;omega
    ·rw[List.mem_singleton.mp hi];exact Nat.lt_succ_self _
   rw[el,List.append_assoc]at this;exact this
  ·rw[if_neg k];have:=zos c as z (p ++ [r]) P f ap h hf λi hi=>by rw[el];have:=lt i hi;omega
   rw[el]at this;exact this
def leO(p:Option Int×Int):Bool:=match p.1 with
 |none=>true
 |some x=>decide (x<=p.2)
theorem zot{c:Int}(hc:0<=c):∀(z:List (Int×Int)) (f g:Int),f<=g->∀p∈(dbL c f z).zip (blL c g z),leO p=true
 |[],_,_,_,p,hp=>by cases hp
 |r::z,f,g,h,p,hp=>by
  rw[dbL,blL]at hp
  split at hp
  ·rw[List.zip_cons_cons]at hp;rcases List.mem_cons.mp hp with rfl|hp
   ·exact decide_eq_true (by omega)
   ·exact zot hc z _ _ (by omega) p hp
  ·rw[List.zip_cons_cons]at hp;rcases List.mem_cons.mp hp with rfl|hp
   ·rfl
   ·exact zot hc z _ _ (by omega) p hp
theorem zkm{c:Int}:∀(z:List (Int×Int)) (f:Int),(zah c f z).count true=0->dbL c f z=(blL c f z).map some
 |[],_,_=>rfl
 |r::z,f,h=>by
  rw[zah,List.count_cons]at h;have h1:¬ r.1+r.2<max r.1 f+c:=λz=>by rw[decide_eq_true z]at h;simp at h
  rw[dbL,if_pos (by omega),blL,List.map_cons,zkm z _ (by omega)]
theorem ze8{c:Int}:∀(z:List (Int×Int)) (f:Int),(zah c f z).count true≠0->none∈dbL c f z
 |[],_,h=>absurd rfl h
 |r::z,f,h=>by
  rw[dbL]
  by_cases k:max r.1 f+c<=r.1+r.2
  ·rw[if_pos k];refine List.mem_cons_of_mem _ (ze8 z _ λe=>h ?_);rw[zah,List.count_cons,e,decide_eq_false (by omega)];rfl
  ·rw[if_neg k];exact List.mem_cons_self
theorem zqs(os:List (Option Int)):Lay (.list (os.map zdr)):=Lay.list λx hx=>by
 obtain⟨o,_,rfl⟩:=List.mem_map.mp hx
 cases o with
 |none=>exact⟨by unfold Lay SeqAt.shaped;simp[zdr,PyData.canLay0,PyData.depth],Nat.le_of_ble_eq_true rfl⟩
 |some i=>exact⟨Lay.int i,Nat.le_of_ble_eq_true rfl⟩
def vc:DSp:=λws Q=>∃(c:Int) (as:List (Int×Int)),ws = [.val (.int c),.val (.tuple (as.map pD))]/\1<=c/\as.length<=8/\Q (.val (.bool true))
theorem jo(B:Blt mg)(F:Fun K "_law_askings_right" "_law_askings_right" ye f fd)(C_done_by_time:Cal P w K mg base 1 "done_by_time" ["need", "askings"] (yc K jl))(C_done_blindly:Cal P w K mg base 1 "done_blindly" ["need", "askings"] (yc K vt))(C_vain_askings:Cal P w K mg base 2 "vain_askings" ["need", "askings"] (yc K jm))(C_schedule_good:Cal P w K mg base 4 "schedule_good" ["need", "askings", "thing"] (yc K kl))(C_schedule_for:Cal P w K mg base 2 "schedule_for" ["need", "askings"] (yc K vr))(C_most_served:Cal P w K mg base 3 "most_served" ["need", "askings"] (yc K jv)):FnOk P w K mg base CX0 5 f fd ["_law_need", "_law_askings_here"] (yc K vc):=by
 refine F.dok sc__law_askings_right (λws Q h=>?_) (λcdv A outer s H ws Q E hr h=>?_)
 ·obtain⟨c,as,rfl,_⟩:=h;rfl
 obtain⟨c,as,rfl,hc,hl,q⟩:=h;refine⟨_,(zc (znn (i:=2) (j:=3) rfl sc__law_askings_right.nd rfl rfl (by decide) rfl rfl (zt (zh C_done_by_time hr rfl (zi 0 (zi 1 zm))) (zt (zh C_done_blindly hr rfl (zi 0 (zi 1 zm))) yi)) rfl) (zc (yw (i:=4) sc__law_askings_right.nd rfl (Or.inl rfl) (wx ku rfl B.tupleT boot_tuple (zg (DE.dv (DF.de (qe rfl (N':=["_law_number", "_law_done", "_law_need"]) (capt:=["_law_need"]) (k:=2) (js:=[0]) ⟨rfl,by decide,rfl,by decide,(.cons rfl .nil),rfl,(.cons rfl (Or.inl rfl) rfl (Or.inl rfl) .nil),rfl,by decide⟩ (DI.w (zc2 rfl B.enumerate (zt (yf 2) yi))) (λ_ _ _ _=>(xn (n:=2) rfl (zq (zo (i:=0) (show List.Nodup (["_law_number", "_law_done", "_law_need"]:List Str) by decide +kernel) rfl (Or.inl rfl) (Or.inr rfl)) (zq (zo (i:=1) (show List.Nodup (["_law_number", "_law_done", "_law_need"]:List Str) by decide +kernel) rfl (Or.inl rfl) (Or.inr rfl)) y8)))) (λ_ _ _ _=>(zjs (yr zia (zb 1) (DE.dv qu) (yd _)))) (λ_ _ _ _=>(vk (zt (yf 0) (zt (yv zcx (zb 1) (zb 2)) yi))))))) zv))) (zc (xq (DWt.dt (qk (yr zod (DE.dv (zh C_schedule_good hr rfl (zi 0 (zi 1 (zi 4 zm))))) (DE.dv wf) (yd _)) (vm (yr zh9 (DE.dv (zy va rfl B.len PySem.boot_len (zg (zb 4) zv))) (DE.dv (zh C_most_served hr rfl (zi 0 (zi 1 zm)))) (yd _))))) (ze (z0 wf)) yo) (zc (xq (w4 (wn (DE.dv (zy (zgw rfl) rfl B.all boot_all (zg (DE.dv (DF.de (qe rfl (N':=["_law_done", "_law_late"]) (capt:=[]) (k:=2) (js:=[]) ⟨rfl,by decide,rfl,by decide,.nil,rfl,.nil,rfl,by decide⟩ (zci rfl B.zip (zg (zb 2) (zg (zb 3) zv))) (λ_ _ _ _=>(xn (n:=2) rfl (zq (zo (i:=0) (show List.Nodup (["_law_done", "_law_late"]:List Str) by decide +kernel) rfl (Or.inl rfl) (Or.inr rfl)) (zq (zo (i:=1) (show List.Nodup (["_law_done", "_law_late"]:List Str) by decide +kernel) rfl (Or.inl rfl) (Or.inr rfl)) y8)))) (λ_ _ _ _=>xf) (λ_ _ _ _=>(zu3 (wv zjn (zb 0) (DE.dv qu) (yd _)) (zcv (wv zfj (zb 0) (zb 1) (yd _)))))))) zv))))) (ze (z0 wf)) yo) (zc (xq (yr (zgv hr) (DE.dv (zy va rfl B.len PySem.boot_len (zg (DE.dv (zh C_schedule_for hr rfl (zi 0 (zi 1 zm)))) zv))) (DE.dv (zh C_most_served hr rfl (zi 0 (zi 1 zm)))) (yd _)) (ze (z0 wf)) yo) (zc (xq (yr (zpl hr) (DE.dv (zh C_vain_askings hr rfl (zi 0 (zi 1 zm)))) (DE.dv zj) (yd _)) (ze (z0 (wv (zpl hr) (zb 2) (zb 3) (yd _)))) yo) (ze (z0 (wv (zss hr) (DE.dv qu) (zb 2) rfl))))))))),?_⟩
 walk_at "ds";refine⟨c,as,rfl,hl,?_⟩;walk_at "ds";refine⟨c,as,rfl,hl,?_⟩;walk_at "ds";have ok:Okk c as (scL c 0 0 as):=zos c as as [] [] 0 rfl .nil rfl λi hi=>(nomatch hi)
 have sl:(scL c 0 0 as).length<=8:=Nat.le_trans (zgb ..) hl;rw[zhu];refine⟨by rw[List.length_map,List.length_zip,zcm];omega,zjw _ (pkF c) (λp hp k hk=>?_) ?_⟩
 ·cases e:p.2 with
  |none=>
   unfold pkF at hk;rw[e]at hk;simp only[zdr];walk_at "ds";exact hk
  |some x=>
   unfold pkF at hk;rw[e]at hk;simp only[zdr];walk_at "ds";exact hk
 rw[zor];refine⟨c,as,scD (scL c 0 0 as),rfl,zt4 _ sl,?_⟩;rw[zvt ok];walk_at "ds";refine⟨c,as,rfl,hl,λS g mx=>?_⟩;have m1:=mx _ ok;walk_at "ds";rw[List.length_map,if_neg (by omega)];rw[j4];refine⟨by rw[List.length_map,List.length_zip,zcm];omega,wb _ (λp:Option Int×Int=>.bool (leO p)) (λp hp k hk=>?_) ⟨((dbL c 0 as).zip (blL c 0 as)).map leO,?_,?_⟩⟩
 ·cases e:p.1 with
  |none=>
   unfold leO at hk;rw[e]at hk;simp only[zdr];walk_at "ds";exact hk
  |some x=>
   unfold leO at hk;rw[e]at hk;simp only[zdr];walk_at "ds";exact hk
 ·have:=qb (((dbL c 0 as).zip (blL c 0 as)).map leO);rw[List.map_map]at this;exact this
 rw[List.all_map,show((dbL c 0 as).zip (blL c 0 as)).all (id ∘ leO)=true from List.all_eq_true.mpr λp hp=>zot (by omega) as 0 0 (Int.le_refl _) p hp,if_neg (by decide)];refine⟨c,as,rfl,hl,λS1 g1 mx1=>?_⟩;unfold scD;walk_at "ds";refine⟨c,as,rfl,hl,λS2 g2 mx2=>?_⟩;have m2:=mx1 _ g2.ok;have m3:=mx2 _ g1.ok;walk_at "ds";rw[List.length_map,show S1.length=S2.length by omega];walk_at "ds";refine⟨c,as,rfl,hl,?_⟩;walk_at "ds"
 by_cases e:(zah c 0 as).count true=0
 ·rw[if_pos (by omega),zkm as 0 e,List.map_map,show(blL c 0 as).map (zdr ∘ some)=(blL c 0 as).map PyData.int from rfl,zg5 (wo _)];exact⟨wo _,wo _,q⟩
 ·rw[if_neg (by omega)]
  have:inD PyData.none ((dbL c 0 as).map zdr)=true:=by
   unfold inD;exact List.any_eq_true.mpr ⟨.none,List.mem_map.mpr ⟨none,ze8 as 0 e,rfl⟩,rfl⟩
  rw[this];exact⟨by unfold Lay SeqAt.shaped;simp[PyData.canLay0,PyData.depth],zqs _,q⟩
end
section
variable {P:Program}{w:World}{K:PySem.W.Frag}{mg:Str->Option Value}{base:Heap}{f:Addr}{fd:FuncData}
structure OkT(rs:List (Int×Int)):Prop where
 all:∀r∈rs,1<=r.1/\r.1<=1000/\0<=r.2/\r.2<=1000
 lo:1<=rs.length
 hi:rs.length<=6
theorem zl6{rs:List (Int×Int)}(h:∀r∈rs,1<=r.1/\r.1<=1000/\0<=r.2/\r.2<=1000)(n:rs ≠ []):1<=ww rs:=by
 have sum0:∀{l:List Int},(∀x∈l,0<=x)->0<=l.sum:=λ{l}=>by
  induction l with
  |nil=>intro _;exact Int.le_refl _
  |cons a l ih=>
   intro h;have:=h a List.mem_cons_self;have:=ih λx hx=>h x (List.mem_cons_of_mem _ hx);rw[List.sum_cons];omega
 cases rs with
 |nil=>exact absurd rfl n
 |cons r rs=>
  have h1:=h r List.mem_cons_self;have h2:0<=(rs.map λr=>r.1).sum:=sum0 λx hx=>by
   obtain⟨y,hy,rfl⟩:=List.mem_map.mp hx;have:=h y (List.mem_cons_of_mem _ hy);omega
  have h3:0<=((r::rs).dropLast.map λr=>r.2).sum:=sum0 λx hx=>by
   obtain⟨y,hy,rfl⟩:=List.mem_map.mp hx;have:=h y (List.dropLast_subset _ hy);omega
  unfold ww w6 zaa;rw[List.map_cons,List.sum_cons];omega
theorem jg:∀{rs:List (Int×Int)} (t:Int),(∀r∈rs,1<=r.1/\r.1<=1000/\0<=r.2/\r.2<=1000)->rs ≠ []->(w5 rs t=none↔ww rs<=t)
 |[],_,_,n=>absurd rfl n
 |[r],t,h,_=>by
  simp only[w5,ww,w6,zaa,List.map_cons,List.map_nil,List.sum_cons,List.sum_nil,List.dropLast_singleton]
  split
  ·next c=>simp;omega
  ·next c=>simp;omega
 |r::r'::rs,t,h,_=>by
  have ih:=jg (rs:=r'::rs) (max (t-r.1-r.2) 0) (λx hx=>h x (List.mem_cons_of_mem _ hx)) (by simp);have p1:=zl6 (rs:=r'::rs) (λx hx=>h x (List.mem_cons_of_mem _ hx)) (by simp);have h1:=h r List.mem_cons_self;have e:ww (r::r'::rs)=r.1+r.2+ww (r'::rs):=by
   simp only[ww,w6,zaa,List.map_cons,List.sum_cons,List.dropLast_cons₂];omega
  rw[w5,e]
  split
  ·next c=>simp;omega
  ·next c=>
   rw[Option.map_eq_none_iff,ih];omega
theorem zkn:∀(rs:List (Int×Int)) (t:Int),(∀r∈rs,1<=r.1/\r.1<=1000/\0<=r.2/\r.2<=1000)->0<=t->vz rs t 0<=t
 |[],t,_,h0=>h0
 |r::rs,t,h,h0=>by
  have h1:=h r List.mem_cons_self
  by_cases c:t<r.1
  ·simp only[vz,w5,if_pos c,w6,List.take_zero,List.map_nil,List.sum_nil];omega
  ·have ih:=zkn rs (max (t-r.1-r.2) 0) (λx hx=>h x (List.mem_cons_of_mem _ hx)) (by omega);simp only[vz,w5,if_neg c]at ih ⊢
   cases e:w5 rs (max (t-r.1-r.2) 0) with
   |none=>simp;omega
   |some k=>
    rw[e]at ih;simp only[Option.map_some,w6,List.take_succ_cons,List.map_cons,List.sum_cons]at ih ⊢;omega
theorem zdt:∀(rs:List (Int×Int)) (t t':Int),t<=t'->(xo rs t).length<=(xo rs t').length/\∀p∈(xo rs t).zip (xo rs t'),p.1<=p.2
 |[],_,_,_=>⟨Nat.le_refl _,λp hp=>nomatch hp⟩
 |r::rs,t,t',h=>by
  rw[xo,xo]
  by_cases c:t<r.1
  ·rw[if_pos c];refine⟨by simp,λp hp=>?_⟩;rw[List.zip_cons_cons,List.zip_nil_left]at hp;rw[List.mem_singleton.mp hp];exact h
  ·rw[if_neg c,if_neg (by omega)];obtain⟨h1,h2⟩:=zdt rs (max (t-r.1-r.2) 0) (max (t' - r.1-r.2) 0) (by omega);refine⟨by rw[List.length_cons,List.length_cons];omega,λp hp=>?_⟩;rw[List.zip_cons_cons]at hp;rcases List.mem_cons.mp hp with rfl|hp
   ·exact h
   ·exact h2 p hp
theorem zou(rs:List (Int×Int))(t:Int):vz (rs.take 1) t 0=0:=by
 cases rs with
 |nil=>rfl
 |cons r rs=>
  rw[List.take_succ_cons,List.take_zero]
  by_cases c:t<r.1
  ·simp only[vz,w5,if_pos c,w6,List.take_zero,List.map_nil,List.sum_nil];rfl
  ·simp only[vz,w5,if_neg c,Option.map_none]
theorem zqt{c:Prop}[Decidable c]{A B:Prop}(h1:B)(h2:B->A):if c then A else B:=by
 split
 ·exact h2 h1
 ·exact h1
def qg:DSp:=λws Q=>∃(rs:List (Int×Int)) (t:Int),ws = [.val (.tuple (rs.map pD)),.val (.int t)]/\OkT rs/\0<=t/\Q (.val (.bool true))
theorem zay(B:Blt mg)(F:Fun K "_law_time_right" "_law_time_right" yn f fd)(C_times_of:Cal P w K mg base 1 "times_of" ["road", "time"] (yc K jw))(C_turned_at:Cal P w K mg base 2 "turned_at" ["road", "time"] (yc K jc))(C_least_time:Cal P w K mg base 2 "least_time" ["road"] (yc K ka))(C_vain_of:Cal P w K mg base 3 "vain_of" ["road", "time"] (yc K jd))(C_blind_of:Cal P w K mg base 2 "blind_of" ["road", "time"] (yc K zb5)):FnOk P w K mg base CX0 4 f fd ["_law_road_here", "_law_time"] (yc K qg):=by
 refine F.dok sc__law_time_right (λws Q h=>?_) (λcdv A outer s H ws Q E hr h=>?_)
 ·obtain⟨rs,t,rfl,_⟩:=h;rfl
 obtain⟨rs,t,rfl,ok,h0,q⟩:=h;refine⟨_,(zc (yw (i:=2) sc__law_time_right.nd rfl (Or.inl rfl) (zh C_least_time hr rfl (zi 0 zm))) (zc (xq (DWt.dt (qk (yr zia (DE.dv (zh C_turned_at hr rfl (zi 0 (zi 2 zm)))) (DE.dv qu) (yd _)) (qk (yr (zgv hr) (DE.dv (zh C_vain_of hr rfl (zi 0 (zi 2 zm)))) (DE.dv zj) (yd _)) (vm (yr zjn (DE.dv (zh C_turned_at hr rfl (zi 0 (yx (yv zcx (zb 2) (DE.dv zj)) zm)))) (DE.dv qu) (yd _)))))) (ze (z0 wf)) yo) (zc (xq (yr (zgv hr) (DE.dv (wv zjn (DE.dv (zh C_turned_at hr rfl (zi 0 (zi 1 zm)))) (DE.dv qu) (yd _))) (DE.dv (wv zu6 (zb 1) (zb 2) (yd _))) (yd _)) (ze (z0 wf)) yo) (zc (znn (i:=3) (j:=4) rfl sc__law_time_right.nd rfl rfl (by decide) rfl rfl (zt (zh C_times_of hr rfl (zi 0 (zi 1 zm))) (zt (zh C_times_of hr rfl (zi 0 (yx (yv xy (zb 1) (DE.dv zj)) zm))) yi)) rfl) (zc (xq (DWt.dt (qk (yr zk8 (DE.dv (zy va rfl B.len PySem.boot_len (zg (zb 4) zv))) (DE.dv (zy va rfl B.len PySem.boot_len (zg (zb 3) zv))) (yd _)) (vm (w4 (wn (DE.dv (zy (zgw rfl) rfl B.all boot_all (zg (DE.dv (DF.de (qe rfl (N':=["_law_one", "_law_follow"]) (capt:=[]) (k:=2) (js:=[]) ⟨rfl,by decide,rfl,by decide,.nil,rfl,.nil,rfl,by decide⟩ (zci rfl B.zip (zg (zb 3) (zg (zb 4) zv))) (λ_ _ _ _=>(xn (n:=2) rfl (zq (zo (i:=0) (show List.Nodup (["_law_one", "_law_follow"]:List Str) by decide +kernel) rfl (Or.inl rfl) (Or.inr rfl)) (zq (zo (i:=1) (show List.Nodup (["_law_one", "_law_follow"]:List Str) by decide +kernel) rfl (Or.inl rfl) (Or.inr rfl)) y8)))) (λ_ _ _ _=>xf) (λ_ _ _ _=>(wv zfj (zb 0) (zb 1) (yd _)))))) zv)))))))) (ze (z0 wf)) yo) (zc (xq (DWt.dt (zm1 (yr zia (DE.dv (zh C_turned_at hr rfl (yx (qc (zb 0) kw (v4 zj)) (zi 1 zm)))) (DE.dv qu) (yd _)) (zjm (yr (zgv hr) (DE.dv (zh C_vain_of hr rfl (yx (qc (zb 0) kw (v4 zj)) (zi 1 zm)))) (DE.dv zj) (yd _))))) (ze (z0 wf)) yo) (ze (z0 (zcw (wv zfj (DE.dv (zh C_vain_of hr rfl (zi 0 (zi 1 zm)))) (zb 1) (yd _)) (zcv (wv (zss hr) (DE.dv (zh C_blind_of hr rfl (zi 0 (zi 1 zm)))) (DE.dv (vk (zt zj (zt (zy (zjp rfl) rfl B.sum boot_sum (zg (DE.dv (DF.de (qe rfl (N':=["_law_need", "_law_keep"]) (capt:=[]) (k:=2) (js:=[]) ⟨rfl,by decide,rfl,by decide,.nil,rfl,.nil,rfl,by decide⟩ (wt (zb 0)) (λ_ _ _ _=>(xn (n:=2) rfl (zq (zo (i:=0) (show List.Nodup (["_law_need", "_law_keep"]:List Str) by decide +kernel) rfl (Or.inl rfl) (Or.inr rfl)) (zq (zo (i:=1) (show List.Nodup (["_law_need", "_law_keep"]:List Str) by decide +kernel) rfl (Or.inl rfl) (Or.inr rfl)) y8)))) (λ_ _ _ _=>xf) (λ_ _ _ _=>(yf 0))))) zv)) yi) ko))) rfl))))))))))),?_⟩
 have hl:rs.length<=100:=by have:=ok.hi;omega
 have hne:rs ≠ []:=λz=>by have:=ok.lo;rw[z]at this;simp at this
 walk_at "ds";refine⟨rs,rfl,hl,?_⟩;walk_at "ds";refine⟨rs,_,rfl,hl,?_⟩;have e1:w5 rs (ww rs)=none:=(jg _ ok.all hne).mpr (Int.le_refl _);rw[e1];simp only[oD];walk_at "ds";refine⟨rs,_,rfl,hl,?_⟩;rw[show vz rs (ww rs) 0=0 by simp only[vz,e1]];walk_at "ds";refine⟨rs,_,rfl,hl,?_⟩
 cases e2:w5 rs (ww rs-1) with
 |none=>
  have:=(jg _ ok.all hne).mp e2;omega
 |some k=>
 simp only[oD];walk_at "ds";refine⟨rs,_,rfl,hl,?_⟩;dsimp only;rw[if_neg ?h3]
 case h3=>
  intro z;refine z ?_;have h:=jg t ok.all hne
  cases e:w5 rs t with
  |none=>exact(decide_eq_true (h.mp e)).symm
  |some j=>exact(decide_eq_false λz=>by rw[h.mpr z]at e;cases e).symm
 refine⟨rs,_,rfl,hl,?_⟩;refine⟨rs,_,rfl,hl,?_⟩;obtain⟨m1,m2⟩:=zdt rs t (t+1) (by omega);have l1:=zav rs t;have l2:=zav rs (t+1);walk_at "ds";rw[List.length_map,List.length_map,if_neg (by omega),j4];refine⟨by rw[List.length_map,List.length_zip];omega,wb _ (λp:Int×Int=>.bool (decide (p.1<=p.2))) (λp hp k hk=>?_) ⟨((xo rs t).zip (xo rs (t+1))).map λp=>decide (p.1<=p.2),?_,?_⟩⟩
 ·walk_at "ds";exact hk
 ·have:=qb (((xo rs t).zip (xo rs (t+1))).map λp=>decide (p.1<=p.2));rw[List.map_map]at this;exact this
 rw[List.all_map,show((xo rs t).zip (xo rs (t+1))).all (id ∘ λp=>decide (p.1<=p.2))=true from List.all_eq_true.mpr λp hp=>decide_eq_true (m2 p hp),if_neg (by decide)];have es:x3 (rs.map pD) none (some 1)=(rs.take 1).map pD:=by
  rw[sliceD_take0 _ (by decide),List.map_take];rfl
 rw[es];have hl1:(rs.take 1).length<=100:=by rw[List.length_take];omega
 refine⟨rs.take 1,t,rfl,hl1,?_⟩;dsimp only;refine zqt ?_ λy=>⟨rs.take 1,t,rfl,hl1,?_⟩
 ·refine⟨rs,t,rfl,hl,?_⟩;have vl:=zkn rs t ok.all h0;walk_at "ds";rw[if_pos vl];refine⟨rs,t,rfl,hl,?_⟩;rw[List.length_map];refine⟨by omega,zbd (λr=>r.1) (λr hr k hk=>?_) ⟨_,kb _,?_⟩⟩
  ·simp only[pD];walk_at "ds";exact hk
  ·refine⟨Lay.int _,zbr [0,_],?_⟩
   have:inD (PyData.int (if t<w6 rs then w6 rs else 0)) [PyData.int 0,PyData.int (rs.map λr=>r.1).sum]=true:=by
    have:=zbc (if t<w6 rs then w6 rs else 0) [0,w6 rs];refine this.trans (decide_eq_true ?_)
    split
    ·simp
    ·simp
   exact this ▸ q
 ·rw[zou];walk_at "ds";exact y
end
section
variable {P:Program}{w:World}{K:PySem.W.Frag}{mg:Str->Option Value}{base:Heap}{f:Addr}{fd:FuncData}
def ixO(i:Nat):List Nat->Nat
 |[]=>0
 |a::l=>if a=i then 0 else ixO i l+1
theorem zgc{i:Nat}:∀{l:List Nat},i∈l->l[ixO i l]?=some i/\∀m,m<ixO i l->l[m]?≠some i
 |a::l,h=>by
  rw[ixO]
  by_cases c:a=i
  ·rw[if_pos c];exact⟨by rw[c];rfl,λm hm=>absurd hm (Nat.not_lt_zero _)⟩
  ·rw[if_neg c]
   have hm:i∈l:=by
    rcases List.mem_cons.mp h with h|h
    ·exact absurd h.symm c
    ·exact h
   obtain⟨h1,h2⟩:=zgc hm;refine⟨by simpa using h1,λm hm2=>?_⟩
   cases m with
   |zero=>simpa using c
   |succ m=>simpa using h2 m (by omega)
theorem zl7{n:Nat}{o:List Nat}(h:o.Perm (List.range n)):((List.range n).map λi=>ixO i o).Perm (List.range n):=by
 have hm:∀i,i<n->o[ixO i o]?=some i:=λi hi=>(zgc (h.mem_iff.mpr (List.mem_range.mpr hi))).1;refine zdn ?_ (by simp) λi hi=>?_
 ·unfold List.Nodup;rw[List.pairwise_map];refine List.Pairwise.imp_of_mem (λ{a b} ha hb hab e=>?_) List.pairwise_lt_range;have h1:=hm a (List.mem_range.mp ha);have h2:=hm b (List.mem_range.mp hb);rw[e,h2]at h1
  cases h1;exact Nat.lt_irrefl _ hab
 ·obtain⟨j,hj,rfl⟩:=List.mem_map.mp hi;have:=(List.getElem?_eq_some_iff.mp (hm j (List.mem_range.mp hj))).1
  rwa [h.length_eq,List.length_range]at this
theorem zl8{rs:List (Int×Int)}{o:List Nat}(h:o.Perm (List.range rs.length)):pick (pick rs o) ((List.range rs.length).map λi=>ixO i o)=rs:=by
 conv=>rhs;rw[<-zaw rs]
 unfold pick;rw[List.map_map];refine List.map_congr_left λi hi=>?_;have:=(zgc (h.mem_iff.mpr hi)).1;simp only[Function.comp,List.getD_eq_getElem?_getD,List.getElem?_map,this,Option.map_some,Option.getD_some]
theorem zqu{rs:List (Int×Int)}(h:∀r∈rs,1<=r.1/\r.1<=1000/\0<=r.2/\r.2<=1000)(h1:1<=rs.length)(h2:rs.length<=8):zkh (.tuple (rs.map pD))=true:=by
 simp only[zkh,List.length_map,decide_eq_true h1,decide_eq_true h2,Bool.true_and,List.all_map];refine List.all_eq_true.mpr λr hr=>?_;have:=h r hr;simp only[Function.comp,pD,je,hB2,List.length_cons,List.length_nil,List.zip_cons_cons,List.zip_nil_left,List.all_cons,List.all_nil,inB];simp;omega
theorem zi8(rs:List (Int×Int)):Lay (.tuple (rs.map pD)):=Lay.tuple λx hx=>by
 obtain⟨p,_,rfl⟩:=List.mem_map.mp hx;exact⟨zbr [p.1,p.2],Nat.le_of_ble_eq_true rfl⟩
theorem zl9{n m:Nat}(h:m<n):((List.range n).filter (λi=>decide (i≠m)) ++ [m]).Perm (List.range n):=by
 have e:(List.range n).filter (λi=>decide (i≠m))=(List.range n).erase m:=by
  rw[List.Nodup.erase_eq_filter List.nodup_range];exact List.filter_congr λi _=>by by_cases c:i=m <;> simp[c]
 rw[e];exact(List.perm_append_comm).trans (List.perm_cons_erase (List.mem_range.mpr h)).symm
theorem zdu{rs rs':List (Int×Int)}{p:List Nat}{m:Nat}(hp:(p ++ [m]).Perm (List.range rs.length))(hm:∀i,i<rs.length->kp rs i<=kp rs m)(pp:rs'.Perm rs)(hne:rs ≠ []):ww (pick rs (p ++ [m]))<=ww rs':=by
 have n1:pick rs (p ++ [m]) ≠ []:=by unfold pick;simp
 have n2:rs' ≠ []:=λz=>hne (by rw[z]at pp;exact pp.symm.eq_nil);rw[ze5 n1,ze5 n2,ze6 (pick_perm hp),ze7 (pick_perm hp),ze6 pp,ze7 pp];have e1:((pick rs (p ++ [m])).getLast n1).2=kp rs m:=by
  unfold pick kp;simp
 have e2:((rs'.getLast n2).2)<=kp rs m:=by
  have hmem:=pp.mem_iff.mp (List.getLast_mem n2);obtain⟨i,hi,e⟩:=List.mem_iff_getElem.mp hmem;have:=hm i hi;unfold kp at this ⊢;rw[List.getD_eq_getElem?_getD,List.getElem?_eq_getElem hi,Option.getD_some,e]at this;exact this
 omega
def vj:DSp:=λws Q=>∃(rs:List (Int×Int)) (t:Int) (o:List Nat),ws = [.val (.tuple (rs.map pD)),.val (.int t),.val (otD o)]/\OkT rs/\o.Perm (List.range rs.length)/\Q (.val (.bool true))
theorem jx(B:Blt mg){T:Addr}(F:Fun K "_law_orders_right" "_law_orders_right" yh f fd)(C_road_good:Cal P w K mg base 4 "road_good" ["thing"] (yc K zbf))(C_least_time:Cal P w K mg base 2 "least_time" ["road"] (yc K ka))(C_vain_of:Cal P w K mg base 3 "vain_of" ["road", "time"] (yc K jd))(C_ordered:Cal P w K mg base 3 "ordered" ["road", "order"] (yc K zax))(C_best_order:Cal P w K mg base 4 "best_order" ["road"] (qm "best_order.<locals>.<lambda>" T (yc K zae)))(C_least_vain:Cal P w K mg base 4 "least_vain" ["road", "time"] (yc K zad)):FnOk P w K mg base CX0 5 f fd ["_law_road_here", "_law_time", "_law_order_here"] (qm "best_order.<locals>.<lambda>" T (yc K vj)):=by
 refine F.dokT sc__law_orders_right (λws Q h=>?_) (λA outer s H ws Q E hr hT h=>?_)
 ·obtain⟨rs,t,o,rfl,_⟩:=h;rfl
 obtain⟨rs,t,o,rfl,ok,hp,q⟩:=h;refine⟨_,(zc (yw (i:=3) sc__law_orders_right.nd rfl (Or.inl rfl) (zh C_ordered hr rfl (zi 0 (zi 2 zm)))) (zc (yw (i:=4) sc__law_orders_right.nd rfl (Or.inl rfl) (wx ku rfl B.tupleT boot_tuple (zg (DE.dv (DF.de (qe rfl (N':=["_law_number", "_law_order_here"]) (capt:=["_law_order_here"]) (k:=1) (js:=[2]) ⟨rfl,by decide,rfl,by decide,(.cons rfl .nil),rfl,(.cons rfl (Or.inl rfl) rfl (Or.inl rfl) .nil),rfl,by decide⟩ (DI.w (kc rfl B.range (zt (zy va rfl B.len PySem.boot_len (zg (zb 2) zv)) yi))) (λ_ _ _ _=>(zo (i:=0) (show List.Nodup (["_law_number", "_law_order_here"]:List Str) by decide +kernel) rfl (Or.inl rfl) (Or.inr rfl))) (λ_ _ _ _=>xf) (λ_ _ _ _=>(zl2 (zb 1) (yf 0)))))) zv))) (zc (xq (DWt.dt (qk (yr zod (DE.dv (zh C_road_good hr rfl (zi 3 zm))) (DE.dv wf) (yd _)) (vm (yr (zgv hr) (DE.dv (zh C_ordered hr rfl (zi 3 (zi 4 zm)))) (zb 0) (yd _))))) (ze (z0 wf)) yo) (zc (yw (i:=5) sc__law_orders_right.nd rfl (Or.inl rfl) (zh C_ordered hr rfl (zi 0 (yx (zhf C_best_order hT hr rfl (zi 0 zm)) zm)))) (zc (xq (DWt.dt (qk (yr zh9 (DE.dv (zh C_least_time hr rfl (zi 5 zm))) (DE.dv (zh C_least_time hr rfl (zi 3 zm))) (yd _)) (vm (yr zh9 (DE.dv (zh C_least_time hr rfl (zi 5 zm))) (DE.dv (zh C_least_time hr rfl (zi 0 zm))) (yd _))))) (ze (z0 wf)) yo) (zc (yw (i:=6) sc__law_orders_right.nd rfl (Or.inl rfl) (zh C_least_vain hr rfl (zi 0 (zi 1 zm)))) (ze (z0 (zcw (wv zfj (zb 6) (DE.dv (zh C_vain_of hr rfl (zi 3 (zi 1 zm)))) (yd _)) (zcw (wv zfj (zb 6) (DE.dv (zh C_vain_of hr rfl (zi 0 (zi 1 zm)))) (yd _)) (zcv (wv (zpl hr) (zb 6) (DE.dv (zh C_least_vain hr rfl (zi 3 (zi 1 zm)))) (yd _))))))))))))),?_⟩;have h6:=ok.hi;have h1:=ok.lo;have ol:o.length=rs.length:=by rw[hp.length_eq,List.length_range]
 have pp:=pick_perm hp;have pl:=pp.length_eq;walk_at "ds";refine⟨rs,o,rfl,by omega,hp,?_⟩;generalize hrs':pick rs o=rs' at pp pl;unfold otD;walk_at "ds";rw[List.length_map];rw[Int.toNat_natCast,ol,zby];refine⟨by omega,by rw[List.length_map,List.length_range];omega,wb nI (λi=>nI (ixO i o)) (λi hi k hk=>?_) ?_⟩
 ·obtain⟨i1,i2⟩:=zgc (hp.mem_iff.mpr hi)
  have cast:∀j,(o.map λi:Nat=>(i:Int))[j]?=some (i:Int)↔o[j]?=some i:=λj=>by
   rw[List.getElem?_map]
   cases o[j]? with
   |none=>simp
   |some x=>simp;omega
  simp only[nI];walk_at "ds";exact⟨o.map λi:Nat=>(i:Int),ixO i o,by rw[List.map_map];rfl,(cast _).mpr i1,λm hm e=>i2 m hm ((cast m).mp e),hk⟩
 refine⟨_,rfl,?_⟩;rw[zqu (λr hr=>ok.all r (pp.mem_iff.mp hr)) (by omega) (by omega)];walk_at "ds";refine⟨rs',(List.range rs.length).map λi=>ixO i o,by unfold otD;rw[List.map_map];rfl,by omega,by rw[pl];exact zl7 hp,?_⟩;rw[<-hrs',zl8 hp,hrs'];walk_at "ds";refine⟨zi8 rs,zi8 rs,?_⟩;rw[zg5 (zi8 rs)];walk_at "ds";refine⟨rs,rfl,h1,by omega,λm hm hmax=>?_⟩;have hne:rs ≠ []:=λz=>by rw[z]at h1;simp at h1
 have lp:=zl9 hm;refine⟨rs,_,rfl,by omega,lp,?_⟩;have b1:=zdu lp (λi hi=>(hmax i hi).1) pp hne;have b2:=zdu lp (λi hi=>(hmax i hi).1) (List.Perm.refl rs) hne;have bl:=(pick_perm lp).length_eq;generalize pick rs ((List.range rs.length).filter (λi=>decide (i≠m)) ++ [m])=bs at b1 b2 bl;refine⟨bs,rfl,by omega,?_⟩;refine⟨rs',rfl,by omega,?_⟩;walk_at "ds";rw[if_neg (by omega)];refine⟨bs,rfl,by omega,?_⟩;refine⟨rs,rfl,by omega,?_⟩;walk_at "ds";rw[if_neg (by omega)];refine⟨rs,t,rfl,h6,λv v1 v2=>?_⟩;refine⟨rs',t,rfl,by omega,?_⟩;walk_at "ds";rw[if_pos (v1 rs' pp)];refine⟨rs,t,rfl,by omega,?_⟩;walk_at "ds";rw[if_pos (v1 rs (List.Perm.refl _))];refine⟨rs',t,rfl,by omega,λw w1 w2=>?_⟩;have:v=w:=by
  obtain⟨a,ha,rfl⟩:=v2;obtain⟨b,hb,rfl⟩:=w2;have:=v1 b (hb.trans pp);have:=w1 a (ha.trans pp.symm);omega
 subst this;walk_at "ds";exact q
end
section
variable {P:Program}{w:World}{K:PySem.W.Frag}{mg:Str->Option Value}{base:Heap}{f:Addr}{fd:FuncData}
theorem zt5(B:Blt mg){T:Addr}(F:Fun K "law" "law" jj f fd)(C__law_cell_at:Cal P w K mg base 1 "_law_cell_at" ["_law_script", "_law_k"] (yc K jk))(C__law_pen_of:Cal P w K mg base 1 "_law_pen_of" ["_law_cell"] (yc K jt))(C__law_draw:Cal P w K mg base 2 "_law_draw" ["_law_pen", "_law_many"] (yc K x4))(C__law_road:Cal P w K mg base 3 "_law_road" ["_law_pen"] (yc K zbe))(C__law_askings:Cal P w K mg base 3 "_law_askings" ["_law_pen"] (yc K jn))(C__law_order:Cal P w K mg base 3 "_law_order" ["_law_pen", "_law_many"] (yc K zag))(C__law_time_right:Cal P w K mg base 4 "_law_time_right" ["_law_road_here", "_law_time"] (yc K qg))(C__law_orders_right:Cal P w K mg base 5 "_law_orders_right" ["_law_road_here", "_law_time", "_law_order_here"] (qm "best_order.<locals>.<lambda>" T (yc K vj)))(C__law_askings_right:Cal P w K mg base 5 "_law_askings_right" ["_law_need", "_law_askings_here"] (yc K vc)):FnOk P w K mg base CX0 6 f fd ["_law_script"] (qm "best_order.<locals>.<lambda>" T (yc K zdi)):=by
 refine F.dokT sc_law (λws Q h=>?_) (λA outer s H ws Q E hr hT h=>?_)
 ·obtain⟨ns,rfl,_⟩:=h;rfl
 obtain⟨ns,rfl,h63,q⟩:=h;refine⟨_,(zc (qx PassesOwn.never rfl (zao (yv xy (DE.dv (DF.de (wu (zt (zh C__law_cell_at hr rfl (zi 0 (yx zj zm ko))) yi)))) (DE.dv (DF.de (zsz 0 (v4 zj) (v4 zj)))))) (zo (i:=1) sc_law.nd rfl (Or.inl rfl)) (zc (zpr (i:=2) sc_law.nd rfl (Or.inl rfl) (zpp C__law_pen_of hr rfl (zi 1 zm))) (zc (yw (i:=3) sc_law.nd rfl (Or.inl rfl) (qc (DE.dv (zh C__law_road hr rfl (zi 2 zm))) kw (v4 zj))) (zc (yw (i:=4) sc_law.nd rfl (Or.inl rfl) (zh C__law_draw hr rfl (zi 2 (yx (yv xy (DE.dv (zy (zjp rfl) rfl B.sum boot_sum (zg (DE.dv (DF.de (qe rfl (N':=["_law_need", "_law_keep"]) (capt:=[]) (k:=2) (js:=[]) ⟨rfl,by decide,rfl,by decide,.nil,rfl,.nil,rfl,by decide⟩ (wt (zb 3)) (λ_ _ _ _=>(xn (n:=2) rfl (zq (zo (i:=0) (show List.Nodup (["_law_need", "_law_keep"]:List Str) by decide +kernel) rfl (Or.inl rfl) (Or.inr rfl)) (zq (zo (i:=1) (show List.Nodup (["_law_need", "_law_keep"]:List Str) by decide +kernel) rfl (Or.inl rfl) (Or.inr rfl)) y8)))) (λ_ _ _ _=>xf) (λ_ _ _ _=>(yv xy (zb 0) (zb 1)))))) zv))) (DE.dv zj)) zm)))) (zc (xq (DWt.dt (qk (w4 (wn (DE.dv (zh C__law_time_right hr rfl (zi 3 (zi 4 zm)))))) (vm (w4 (wn (DE.dv (zhf C__law_orders_right hT hr rfl (zi 3 (zi 4 (yx (zh C__law_order hr rfl (zi 2 (yx (zy va rfl B.len PySem.boot_len (zg (zb 3) zv)) zm))) zm)))))))))) (ze (z0 wf)) yo) (zc (zii (zh C__law_askings hr rfl (zi 2 zm)) (xn (n:=2) rfl (zq (zo (i:=5) sc_law.nd rfl (Or.inl rfl)) (zq (zo (i:=6) sc_law.nd rfl (Or.inl rfl)) y8)))) (ze (xq (w4 (wn (DE.dv (zh C__law_askings_right hr rfl (zi 5 (zi 6 zm)))))) (ze (z0 wf)) yo)))))))) (ze (z0 wf))),?_⟩;walk_at "ds";refine⟨ns,0,rfl,by decide,λv=>?_⟩;obtain⟨ys,ey,_,hy⟩:=zin PyData.int ns (some 1) (some 4);rw[ey,List.length_map];refine⟨by omega,?_⟩;walk_at "ds";refine zn1 (ds:=(v::ys).map PyData.int) (λσ=>∃(u1 u2 u3 u4 u5 u6:Option W),σ = [some (.scr ns),u1,u2,u3,u4,u5,u6]) ⟨none,none,none,none,none,none,rfl⟩ ?_ ?_
 ·rintro d hd σ N ⟨u1,u2,u3,u4,u5,u6,rfl⟩ k;obtain⟨v,_,rfl⟩:=List.mem_map.mp hd;refine ja (λσ=>σ = [some (.scr ns),some (.val (.int v)),some .pen,u3,u4,u5,u6]) (λN hN=>?_) ?_
  ·walk_at "ds";refine⟨_,rfl,λa b c=>?_⟩;walk_at "ds";exact⟨⟨a,b,c,rfl⟩,hN _ rfl⟩
  rintro σ rfl;refine ja (λσ=>∃(rs:List (Int×Int)),OkT rs/\σ = [some (.scr ns),some (.val (.int v)),some .pen,some (.val (.tuple (rs.map pD))),u4,u5,u6]) (λN hN=>?_) ?_
  ·walk_at "ds";refine⟨rfl,λrs ok=>?_⟩;walk_at "ds"
   have es:x3 (rs.map pD) none (some 6)=(rs.take 6).map pD:=by
    rw[sliceD_take0 _ (by decide),List.map_take];rfl
   rw[es];exact hN _ ⟨rs.take 6,⟨λr hr=>ok.all r (List.mem_of_mem_take hr),by rw[List.length_take];have:=ok.lo;omega,by rw[List.length_take];omega⟩,rfl⟩
  rintro σ ⟨rs,ok,rfl⟩;have h6:=ok.hi;have h1:=ok.lo;refine ja (λσ=>∃t:Int,0<=t/\σ = [some (.scr ns),some (.val (.int v)),some .pen,some (.val (.tuple (rs.map pD))),some (.val (.int t)),u5,u6]) (λN hN=>?_) ?_
  ·walk_at "ds";rw[List.length_map];refine⟨by omega,zbd (λr=>r.1+r.2) (λr hr k hk=>?_) ⟨_,kb _,?_⟩⟩
   ·simp only[pD];walk_at "ds";exact hk
   ·have sb:∀l:List (Int×Int),(∀r∈l,1<=r.1/\r.1<=1000/\0<=r.2/\r.2<=1000)->0<=(l.map λr=>r.1+r.2).sum/\(l.map λr=>r.1+r.2).sum<=2000 * l.length:=λl=>by
     induction l with
     |nil=>intro _;exact⟨Int.le_refl _,Int.le_refl _⟩
     |cons r l ih=>
      intro h;have a:=h r List.mem_cons_self;have b:=ih λx hx=>h x (List.mem_cons_of_mem _ hx);rw[List.map_cons,List.sum_cons,List.length_cons];omega
    have b:=sb rs ok.all;refine kg (by omega) (by omega) λt lt ht=>?_;exact hN _ ⟨t,lt,rfl⟩
  rintro σ ⟨t,lt,rfl⟩;refine ja (λσ=>σ = [some (.scr ns),some (.val (.int v)),some .pen,some (.val (.tuple (rs.map pD))),some (.val (.int t)),u5,u6]) (λN hN=>?_) ?_
  ·walk_at "ds";refine⟨rs,t,rfl,ok,lt,?_⟩;walk_at "ds";refine⟨rs.length,by rw[List.length_map],by omega,λo hp=>?_⟩;refine⟨rs,t,o,rfl,ok,hp,?_⟩;walk_at "ds";exact hN _ rfl
  rintro σ rfl;walk_at "ds";refine⟨rfl,λc as c1 c2 hl=>?_⟩;walk_at "ds";refine⟨c,as,rfl,c1,hl,?_⟩;walk_at "ds";exact k _ ⟨_,_,_,_,_,_,rfl⟩
 ·rintro σ ⟨u1,u2,u3,u4,u5,u6,rfl⟩;walk_at "ds";exact q
end
theorem zwu{us:List Value}(h:us.length=0):us = []:=List.eq_nil_of_length_eq_zero h
theorem zcg{us:List Value}(h:us.length=1):∃a0,us = [a0]:=by
 cases us with
 |nil=>cases h
 |cons a t=>
  obtain rfl:=zwu (Nat.succ.inj h);exact⟨a,rfl⟩
theorem jh{us:List Value}(h:us.length=2):∃a0 a1,us = [a0,a1]:=by
 cases us with
 |nil=>cases h
 |cons a t=>
  obtain⟨a1,rfl⟩:=zcg (Nat.succ.inj h);exact⟨a,a1,rfl⟩
theorem zov{us:List Value}(h:us.length=3):∃a0 a1 a2,us = [a0,a1,a2]:=by
 cases us with
 |nil=>cases h
 |cons a t=>
  obtain⟨a1,a2,rfl⟩:=jh (Nat.succ.inj h);exact⟨a,a1,a2,rfl⟩
theorem zwv{us:List Value}(h:us.length=4):∃a0 a1 a2 a3,us = [a0,a1,a2,a3]:=by
 cases us with
 |nil=>cases h
 |cons a t=>
  obtain⟨a1,a2,a3,rfl⟩:=zov (Nat.succ.inj h);exact⟨a,a1,a2,a3,rfl⟩
theorem zt6{l:PySem.W.OpenLaw}{w:World}{K:PySem.W.Frag}{h:Heap}{mg:Str->Option Value}{fa f0 f1 f2 f3 f4 f5 f6 f7 f8 f9 f10 f11 f12 f13 f14 f15 f16 f17 f18 f19 f20 f21 f22 f23 f24 f25 f26 f27 f28 f29 f30 f31 f32 f33 f34:Addr}(X:K.In h)(G:h.Ns mainGlobals mg)(hfa:mg "law" = some (.ref fa))
  {od0 an0:Option Addr}{sl0:Array (Option Value)}{oc0 kV0 dc0 pm0 cd0 ct0:Value}
  (a0:PySem.W.nsIn K mainGlobals "is_whole" = some (some (.ref f0))) (l0:K.lookup f0=some ⟨oc0,od0,.func (PySem.W.fnOf "is_whole" "is_whole" (zf x5) (zd x5) (za x5) .none kV0 dc0 pm0 an0 cd0 ct0),sl0⟩) (c0:PySem.W.codeIn K cd0 "is_whole" = true) (k0:PySem.W.keepIn K (.ref f0)=true)
  {od1 an1:Option Addr}{sl1:Array (Option Value)}{oc1 kV1 dc1 pm1 cd1 ct1:Value}
  (a1:PySem.W.nsIn K mainGlobals "whole_in" = some (some (.ref f1))) (l1:K.lookup f1=some ⟨oc1,od1,.func (PySem.W.fnOf "whole_in" "whole_in" (zf x6) (zd x6) (za x6) .none kV1 dc1 pm1 an1 cd1 ct1),sl1⟩) (c1:PySem.W.codeIn K cd1 "whole_in" = true) (k1:PySem.W.keepIn K (.ref f1)=true)
  {od2 an2:Option Addr}{sl2:Array (Option Value)}{oc2 kV2 dc2 pm2 cd2 ct2:Value}
  (a2:PySem.W.nsIn K mainGlobals "wholes_in" = some (some (.ref f2))) (l2:K.lookup f2=some ⟨oc2,od2,.func (PySem.W.fnOf "wholes_in" "wholes_in" (zf xr) (zd xr) (za xr) .none kV2 dc2 pm2 an2 cd2 ct2),sl2⟩) (c2:PySem.W.codeIn K cd2 "wholes_in" = true) (k2:PySem.W.keepIn K (.ref f2)=true)
  {od3 an3:Option Addr}{sl3:Array (Option Value)}{oc3 kV3 dc3 pm3 cd3 ct3:Value}
  (a3:PySem.W.nsIn K mainGlobals "road_good" = some (some (.ref f3))) (l3:K.lookup f3=some ⟨oc3,od3,.func (PySem.W.fnOf "road_good" "road_good" (zf xt) (zd xt) (za xt) .none kV3 dc3 pm3 an3 cd3 ct3),sl3⟩) (c3:PySem.W.codeIn K cd3 "road_good" = true) (k3:PySem.W.keepIn K (.ref f3)=true)
  {od4 an4:Option Addr}{sl4:Array (Option Value)}{oc4 kV4 dc4 pm4 cd4 ct4:Value}
  (a4:PySem.W.nsIn K mainGlobals "times_of" = some (some (.ref f4))) (l4:K.lookup f4=some ⟨oc4,od4,.func (PySem.W.fnOf "times_of" "times_of" (zf x8) (zd x8) (za x8) .none kV4 dc4 pm4 an4 cd4 ct4),sl4⟩) (c4:PySem.W.codeIn K cd4 "times_of" = true) (k4:PySem.W.keepIn K (.ref f4)=true)
  {od5 an5:Option Addr}{sl5:Array (Option Value)}{oc5 kV5 dc5 pm5 cd5 ct5:Value}
  (a5:PySem.W.nsIn K mainGlobals "turned_at" = some (some (.ref f5))) (l5:K.lookup f5=some ⟨oc5,od5,.func (PySem.W.fnOf "turned_at" "turned_at" (zf xu) (zd xu) (za xu) .none kV5 dc5 pm5 an5 cd5 ct5),sl5⟩) (c5:PySem.W.codeIn K cd5 "turned_at" = true) (k5:PySem.W.keepIn K (.ref f5)=true)
  {od6 an6:Option Addr}{sl6:Array (Option Value)}{oc6 kV6 dc6 pm6 cd6 ct6:Value}
  (a6:PySem.W.nsIn K mainGlobals "needs_of" = some (some (.ref f6))) (l6:K.lookup f6=some ⟨oc6,od6,.func (PySem.W.fnOf "needs_of" "needs_of" (zf x9) (zd x9) (za x9) .none kV6 dc6 pm6 an6 cd6 ct6),sl6⟩) (c6:PySem.W.codeIn K cd6 "needs_of" = true) (k6:PySem.W.keepIn K (.ref f6)=true)
  {od7 an7:Option Addr}{sl7:Array (Option Value)}{oc7 kV7 dc7 pm7 cd7 ct7:Value}
  (a7:PySem.W.nsIn K mainGlobals "least_time" = some (some (.ref f7))) (l7:K.lookup f7=some ⟨oc7,od7,.func (PySem.W.fnOf "least_time" "least_time" (zf xg) (zd xg) (za xg) .none kV7 dc7 pm7 an7 cd7 ct7),sl7⟩) (c7:PySem.W.codeIn K cd7 "least_time" = true) (k7:PySem.W.keepIn K (.ref f7)=true)
  {od8 an8:Option Addr}{sl8:Array (Option Value)}{oc8 kV8 dc8 pm8 cd8 ct8:Value}
  (a8:PySem.W.nsIn K mainGlobals "vain_of" = some (some (.ref f8))) (l8:K.lookup f8=some ⟨oc8,od8,.func (PySem.W.fnOf "vain_of" "vain_of" (zf wk) (zd wk) (za wk) .none kV8 dc8 pm8 an8 cd8 ct8),sl8⟩) (c8:PySem.W.codeIn K cd8 "vain_of" = true) (k8:PySem.W.keepIn K (.ref f8)=true)
  {od9 an9:Option Addr}{sl9:Array (Option Value)}{oc9 kV9 dc9 pm9 cd9 ct9:Value}
  (a9:PySem.W.nsIn K mainGlobals "blind_of" = some (some (.ref f9))) (l9:K.lookup f9=some ⟨oc9,od9,.func (PySem.W.fnOf "blind_of" "blind_of" (zf wa) (zd wa) (za wa) .none kV9 dc9 pm9 an9 cd9 ct9),sl9⟩) (c9:PySem.W.codeIn K cd9 "blind_of" = true) (k9:PySem.W.keepIn K (.ref f9)=true)
  {od10 an10:Option Addr}{sl10:Array (Option Value)}{oc10 kV10 dc10 pm10 cd10 ct10:Value}
  (a10:PySem.W.nsIn K mainGlobals "order_good" = some (some (.ref f10))) (l10:K.lookup f10=some ⟨oc10,od10,.func (PySem.W.fnOf "order_good" "order_good" (zf xh) (zd xh) (za xh) .none kV10 dc10 pm10 an10 cd10 ct10),sl10⟩) (c10:PySem.W.codeIn K cd10 "order_good" = true) (k10:PySem.W.keepIn K (.ref f10)=true)
  {od11 an11:Option Addr}{sl11:Array (Option Value)}{oc11 kV11 dc11 pm11 cd11 ct11:Value}
  (a11:PySem.W.nsIn K mainGlobals "ordered" = some (some (.ref f11))) (l11:K.lookup f11=some ⟨oc11,od11,.func (PySem.W.fnOf "ordered" "ordered" (zf wl) (zd wl) (za wl) .none kV11 dc11 pm11 an11 cd11 ct11),sl11⟩) (c11:PySem.W.codeIn K cd11 "ordered" = true) (k11:PySem.W.keepIn K (.ref f11)=true)
  {od12 an12:Option Addr}{sl12:Array (Option Value)}{oc12 kV12 dc12 pm12 cd12 ct12:Value}
  (a12:PySem.W.nsIn K mainGlobals "best_order" = some (some (.ref f12))) (l12:K.lookup f12=some ⟨oc12,od12,.func (PySem.W.fnOf "best_order" "best_order" (zf xi) (zd xi) (za xi) .none kV12 dc12 pm12 an12 cd12 ct12),sl12⟩) (c12:PySem.W.codeIn K cd12 "best_order" = true) (k12:PySem.W.keepIn K (.ref f12)=true)
  {od13 an13:Option Addr}{sl13:Array (Option Value)}{oc13 kV13 dc13 pm13 cd13 ct13:Value}
  (a13:PySem.W.nsIn K mainGlobals "all_orders" = some (some (.ref f13))) (l13:K.lookup f13=some ⟨oc13,od13,.func (PySem.W.fnOf "all_orders" "all_orders" (zf xj) (zd xj) (za xj) .none kV13 dc13 pm13 an13 cd13 ct13),sl13⟩) (c13:PySem.W.codeIn K cd13 "all_orders" = true) (k13:PySem.W.keepIn K (.ref f13)=true)
  {od14 an14:Option Addr}{sl14:Array (Option Value)}{oc14 kV14 dc14 pm14 cd14 ct14:Value}
  (a14:PySem.W.nsIn K mainGlobals "least_vain" = some (some (.ref f14))) (l14:K.lookup f14=some ⟨oc14,od14,.func (PySem.W.fnOf "least_vain" "least_vain" (zf xk) (zd xk) (za xk) .none kV14 dc14 pm14 an14 cd14 ct14),sl14⟩) (c14:PySem.W.codeIn K cd14 "least_vain" = true) (k14:PySem.W.keepIn K (.ref f14)=true)
  {od15 an15:Option Addr}{sl15:Array (Option Value)}{oc15 kV15 dc15 pm15 cd15 ct15:Value}
  (a15:PySem.W.nsIn K mainGlobals "done_by_time" = some (some (.ref f15))) (l15:K.lookup f15=some ⟨oc15,od15,.func (PySem.W.fnOf "done_by_time" "done_by_time" (zf yy) (zd yy) (za yy) .none kV15 dc15 pm15 an15 cd15 ct15),sl15⟩) (c15:PySem.W.codeIn K cd15 "done_by_time" = true) (k15:PySem.W.keepIn K (.ref f15)=true)
  {od16 an16:Option Addr}{sl16:Array (Option Value)}{oc16 kV16 dc16 pm16 cd16 ct16:Value}
  (a16:PySem.W.nsIn K mainGlobals "done_blindly" = some (some (.ref f16))) (l16:K.lookup f16=some ⟨oc16,od16,.func (PySem.W.fnOf "done_blindly" "done_blindly" (zf yz) (zd yz) (za yz) .none kV16 dc16 pm16 an16 cd16 ct16),sl16⟩) (c16:PySem.W.codeIn K cd16 "done_blindly" = true) (k16:PySem.W.keepIn K (.ref f16)=true)
  {od17 an17:Option Addr}{sl17:Array (Option Value)}{oc17 kV17 dc17 pm17 cd17 ct17:Value}
  (a17:PySem.W.nsIn K mainGlobals "vain_askings" = some (some (.ref f17))) (l17:K.lookup f17=some ⟨oc17,od17,.func (PySem.W.fnOf "vain_askings" "vain_askings" (zf y0) (zd y0) (za y0) .none kV17 dc17 pm17 an17 cd17 ct17),sl17⟩) (c17:PySem.W.codeIn K cd17 "vain_askings" = true) (k17:PySem.W.keepIn K (.ref f17)=true)
  {od18 an18:Option Addr}{sl18:Array (Option Value)}{oc18 kV18 dc18 pm18 cd18 ct18:Value}
  (a18:PySem.W.nsIn K mainGlobals "entry_good" = some (some (.ref f18))) (l18:K.lookup f18=some ⟨oc18,od18,.func (PySem.W.fnOf "entry_good" "entry_good" (zf xl) (zd xl) (za xl) .none kV18 dc18 pm18 an18 cd18 ct18),sl18⟩) (c18:PySem.W.codeIn K cd18 "entry_good" = true) (k18:PySem.W.keepIn K (.ref f18)=true)
  {od19 an19:Option Addr}{sl19:Array (Option Value)}{oc19 kV19 dc19 pm19 cd19 ct19:Value}
  (a19:PySem.W.nsIn K mainGlobals "schedule_good" = some (some (.ref f19))) (l19:K.lookup f19=some ⟨oc19,od19,.func (PySem.W.fnOf "schedule_good" "schedule_good" (zf yt) (zd yt) (za yt) .none kV19 dc19 pm19 an19 cd19 ct19),sl19⟩) (c19:PySem.W.codeIn K cd19 "schedule_good" = true) (k19:PySem.W.keepIn K (.ref f19)=true)
  {od20 an20:Option Addr}{sl20:Array (Option Value)}{oc20 kV20 dc20 pm20 cd20 ct20:Value}
  (a20:PySem.W.nsIn K mainGlobals "longer_by_one" = some (some (.ref f20))) (l20:K.lookup f20=some ⟨oc20,od20,.func (PySem.W.fnOf "longer_by_one" "longer_by_one" (zf yu) (zd yu) (za yu) .none kV20 dc20 pm20 an20 cd20 ct20),sl20⟩) (c20:PySem.W.codeIn K cd20 "longer_by_one" = true) (k20:PySem.W.keepIn K (.ref f20)=true)
  {od21 an21:Option Addr}{sl21:Array (Option Value)}{oc21 kV21 dc21 pm21 cd21 ct21:Value}
  (a21:PySem.W.nsIn K mainGlobals "soonest_of_each" = some (some (.ref f21))) (l21:K.lookup f21=some ⟨oc21,od21,.func (PySem.W.fnOf "soonest_of_each" "soonest_of_each" (zf ym) (zd ym) (za ym) .none kV21 dc21 pm21 an21 cd21 ct21),sl21⟩) (c21:PySem.W.codeIn K cd21 "soonest_of_each" = true) (k21:PySem.W.keepIn K (.ref f21)=true)
  {od22 an22:Option Addr}{sl22:Array (Option Value)}{oc22 kV22 dc22 pm22 cd22 ct22:Value}
  (a22:PySem.W.nsIn K mainGlobals "schedule_for" = some (some (.ref f22))) (l22:K.lookup f22=some ⟨oc22,od22,.func (PySem.W.fnOf "schedule_for" "schedule_for" (zf y3) (zd y3) (za y3) .none kV22 dc22 pm22 an22 cd22 ct22),sl22⟩) (c22:PySem.W.codeIn K cd22 "schedule_for" = true) (k22:PySem.W.keepIn K (.ref f22)=true)
  {od23 an23:Option Addr}{sl23:Array (Option Value)}{oc23 kV23 dc23 pm23 cd23 ct23:Value}
  (a23:PySem.W.nsIn K mainGlobals "most_served" = some (some (.ref f23))) (l23:K.lookup f23=some ⟨oc23,od23,.func (PySem.W.fnOf "most_served" "most_served" (zf xa) (zd xa) (za xa) .none kV23 dc23 pm23 an23 cd23 ct23),sl23⟩) (c23:PySem.W.codeIn K cd23 "most_served" = true) (k23:PySem.W.keepIn K (.ref f23)=true)
  {od24 an24:Option Addr}{sl24:Array (Option Value)}{oc24 kV24 dc24 pm24 cd24 ct24:Value}
  (a24:PySem.W.nsIn K mainGlobals "_law_cell_at" = some (some (.ref f24))) (l24:K.lookup f24=some ⟨oc24,od24,.func (PySem.W.fnOf "_law_cell_at" "_law_cell_at" (zf y4) (zd y4) (za y4) .none kV24 dc24 pm24 an24 cd24 ct24),sl24⟩) (c24:PySem.W.codeIn K cd24 "_law_cell_at" = true) (k24:PySem.W.keepIn K (.ref f24)=true)
  {od25 an25:Option Addr}{sl25:Array (Option Value)}{oc25 kV25 dc25 pm25 cd25 ct25:Value}
  (a25:PySem.W.nsIn K mainGlobals "_law_next" = some (some (.ref f25))) (l25:K.lookup f25=some ⟨oc25,od25,.func (PySem.W.fnOf "_law_next" "_law_next" (zf xv) (zd xv) (za xv) .none kV25 dc25 pm25 an25 cd25 ct25),sl25⟩) (c25:PySem.W.codeIn K cd25 "_law_next" = true) (k25:PySem.W.keepIn K (.ref f25)=true)
  {od26 an26:Option Addr}{sl26:Array (Option Value)}{oc26 kV26 dc26 pm26 cd26 ct26:Value}
  (a26:PySem.W.nsIn K mainGlobals "_law_pen_of" = some (some (.ref f26))) (l26:K.lookup f26=some ⟨oc26,od26,.func (PySem.W.fnOf "_law_pen_of" "_law_pen_of" (zf xb) (zd xb) (za xb) .none kV26 dc26 pm26 an26 cd26 ct26),sl26⟩) (c26:PySem.W.codeIn K cd26 "_law_pen_of" = true) (k26:PySem.W.keepIn K (.ref f26)=true)
  {od27 an27:Option Addr}{sl27:Array (Option Value)}{oc27 kV27 dc27 pm27 cd27 ct27:Value}
  (a27:PySem.W.nsIn K mainGlobals "_law_draw" = some (some (.ref f27))) (l27:K.lookup f27=some ⟨oc27,od27,.func (PySem.W.fnOf "_law_draw" "_law_draw" (zf xw) (zd xw) (za xw) .none kV27 dc27 pm27 an27 cd27 ct27),sl27⟩) (c27:PySem.W.codeIn K cd27 "_law_draw" = true) (k27:PySem.W.keepIn K (.ref f27)=true)
  {od28 an28:Option Addr}{sl28:Array (Option Value)}{oc28 kV28 dc28 pm28 cd28 ct28:Value}
  (a28:PySem.W.nsIn K mainGlobals "_law_road" = some (some (.ref f28))) (l28:K.lookup f28=some ⟨oc28,od28,.func (PySem.W.fnOf "_law_road" "_law_road" (zf xx) (zd xx) (za xx) .none kV28 dc28 pm28 an28 cd28 ct28),sl28⟩) (c28:PySem.W.codeIn K cd28 "_law_road" = true) (k28:PySem.W.keepIn K (.ref f28)=true)
  {od29 an29:Option Addr}{sl29:Array (Option Value)}{oc29 kV29 dc29 pm29 cd29 ct29:Value}
  (a29:PySem.W.nsIn K mainGlobals "_law_askings" = some (some (.ref f29))) (l29:K.lookup f29=some ⟨oc29,od29,.func (PySem.W.fnOf "_law_askings" "_law_askings" (zf y6) (zd y6) (za y6) .none kV29 dc29 pm29 an29 cd29 ct29),sl29⟩) (c29:PySem.W.codeIn K cd29 "_law_askings" = true) (k29:PySem.W.keepIn K (.ref f29)=true)
  {od30 an30:Option Addr}{sl30:Array (Option Value)}{oc30 kV30 dc30 pm30 cd30 ct30:Value}
  (a30:PySem.W.nsIn K mainGlobals "_law_order" = some (some (.ref f30))) (l30:K.lookup f30=some ⟨oc30,od30,.func (PySem.W.fnOf "_law_order" "_law_order" (zf xm) (zd xm) (za xm) .none kV30 dc30 pm30 an30 cd30 ct30),sl30⟩) (c30:PySem.W.codeIn K cd30 "_law_order" = true) (k30:PySem.W.keepIn K (.ref f30)=true)
  {od31 an31:Option Addr}{sl31:Array (Option Value)}{oc31 kV31 dc31 pm31 cd31 ct31:Value}
  (a31:PySem.W.nsIn K mainGlobals "_law_time_right" = some (some (.ref f31))) (l31:K.lookup f31=some ⟨oc31,od31,.func (PySem.W.fnOf "_law_time_right" "_law_time_right" (zf yn) (zd yn) (za yn) .none kV31 dc31 pm31 an31 cd31 ct31),sl31⟩) (c31:PySem.W.codeIn K cd31 "_law_time_right" = true) (k31:PySem.W.keepIn K (.ref f31)=true)
  {od32 an32:Option Addr}{sl32:Array (Option Value)}{oc32 kV32 dc32 pm32 cd32 ct32:Value}
  (a32:PySem.W.nsIn K mainGlobals "_law_orders_right" = some (some (.ref f32))) (l32:K.lookup f32=some ⟨oc32,od32,.func (PySem.W.fnOf "_law_orders_right" "_law_orders_right" (zf yh) (zd yh) (za yh) .none kV32 dc32 pm32 an32 cd32 ct32),sl32⟩) (c32:PySem.W.codeIn K cd32 "_law_orders_right" = true) (k32:PySem.W.keepIn K (.ref f32)=true)
  {od33 an33:Option Addr}{sl33:Array (Option Value)}{oc33 kV33 dc33 pm33 cd33 ct33:Value}
  (a33:PySem.W.nsIn K mainGlobals "_law_askings_right" = some (some (.ref f33))) (l33:K.lookup f33=some ⟨oc33,od33,.func (PySem.W.fnOf "_law_askings_right" "_law_askings_right" (zf ye) (zd ye) (za ye) .none kV33 dc33 pm33 an33 cd33 ct33),sl33⟩) (c33:PySem.W.codeIn K cd33 "_law_askings_right" = true) (k33:PySem.W.keepIn K (.ref f33)=true)
  {od34 an34:Option Addr}{sl34:Array (Option Value)}{oc34 kV34 dc34 pm34 cd34 ct34:Value}
  (a34:PySem.W.nsIn K mainGlobals "law" = some (some (.ref f34))) (l34:K.lookup f34=some ⟨oc34,od34,.func (PySem.W.fnOf "law" "law" (zf jj) (zd jj) (za jj) .none kV34 dc34 pm34 an34 cd34 ct34),sl34⟩) (c34:PySem.W.codeIn K cd34 "law" = true) (k34:PySem.W.keepIn K (.ref f34)=true)
  (z_len:PySem.W.nsIn K mainGlobals "len" = some none)
  (z_range:PySem.W.nsIn K mainGlobals "range" = some none)
  (z_enumerate:PySem.W.nsIn K mainGlobals "enumerate" = some none)
  (z_sum:PySem.W.nsIn K mainGlobals "sum" = some none)
  (z_min:PySem.W.nsIn K mainGlobals "min" = some none)
  (z_max:PySem.W.nsIn K mainGlobals "max" = some none)
  (z_isinstance:PySem.W.nsIn K mainGlobals "isinstance" = some none)
  (z_all:PySem.W.nsIn K mainGlobals "all" = some none)
  (z_zip:PySem.W.nsIn K mainGlobals "zip" = some none)
  (z_sorted:PySem.W.nsIn K mainGlobals "sorted" = some none)
  (z_tupleT:PySem.W.nsIn K mainGlobals "tuple" = some none)
  (z_intT:PySem.W.nsIn K mainGlobals "int" = some none)
  (z_listT:PySem.W.nsIn K mainGlobals "list" = some none)
  (z_boolT:PySem.W.nsIn K mainGlobals "bool" = some none)
  {gt_HOUSE_BOUNDS_0_0:Tok}{gt_HOUSE_BOUNDS_0_1:Tok}{ga_HOUSE_BOUNDS_0:Addr}{gn_HOUSE_BOUNDS_0:Nat}{gs_HOUSE_BOUNDS_0:Array (Option Value)} (yl_HOUSE_BOUNDS_0:K.lookup ga_HOUSE_BOUNDS_0=some ⟨.type "tuple",none,.seq #[.int 1 gt_HOUSE_BOUNDS_0_0,.int 1000 gt_HOUSE_BOUNDS_0_1] gn_HOUSE_BOUNDS_0,gs_HOUSE_BOUNDS_0⟩) {gt_HOUSE_BOUNDS_1_0:Tok}{gt_HOUSE_BOUNDS_1_1:Tok}{ga_HOUSE_BOUNDS_1:Addr}{gn_HOUSE_BOUNDS_1:Nat}{gs_HOUSE_BOUNDS_1:Array (Option Value)} (yl_HOUSE_BOUNDS_1:K.lookup ga_HOUSE_BOUNDS_1=some ⟨.type "tuple",none,.seq #[.int 0 gt_HOUSE_BOUNDS_1_0,.int 1000 gt_HOUSE_BOUNDS_1_1] gn_HOUSE_BOUNDS_1,gs_HOUSE_BOUNDS_1⟩) {ga_HOUSE_BOUNDS:Addr}{gn_HOUSE_BOUNDS:Nat}{gs_HOUSE_BOUNDS:Array (Option Value)} (yl_HOUSE_BOUNDS:K.lookup ga_HOUSE_BOUNDS=some ⟨.type "tuple",none,.seq #[.ref ga_HOUSE_BOUNDS_0,.ref ga_HOUSE_BOUNDS_1] gn_HOUSE_BOUNDS,gs_HOUSE_BOUNDS⟩)
  (y_HOUSE_BOUNDS:PySem.W.nsIn K mainGlobals "HOUSE_BOUNDS" = some (some (.ref ga_HOUSE_BOUNDS)))
  {t_MOST_HOUSES:Tok} (y_MOST_HOUSES:PySem.W.nsIn K mainGlobals "MOST_HOUSES" = some (some (.int 8 t_MOST_HOUSES)))
  {t_MOST_ORDERED:Tok} (y_MOST_ORDERED:PySem.W.nsIn K mainGlobals "MOST_ORDERED" = some (some (.int 6 t_MOST_ORDERED)))
  {c T:Addr} (hcd:cd12=.ref c):∃fd:FuncData,(∀(s:Shared) (v:Value),BindsTo s fd ⟨[v],[]⟩ [("_law_script",v)])/\∀base:Heap,K.In base->base.Ns mainGlobals mg->jq mg base->PySem.W.CodeHd base c T->FnOk l.prog w K mg base CX0 6 fa fd ["_law_script"] (qm "best_order.<locals>.<lambda>" T (yc K zdi)):=by
 have e:=hfa.symm.trans (PySem.W.mg_of X G a34)
 cases e;have B:Blt mg:=⟨PySem.W.mg_none_of X G z_len,PySem.W.mg_none_of X G z_range,PySem.W.mg_none_of X G z_enumerate,PySem.W.mg_none_of X G z_sum,PySem.W.mg_none_of X G z_min,PySem.W.mg_none_of X G z_max,PySem.W.mg_none_of X G z_isinstance,PySem.W.mg_none_of X G z_all,PySem.W.mg_none_of X G z_zip,PySem.W.mg_none_of X G z_sorted,PySem.W.mg_none_of X G z_tupleT,PySem.W.mg_none_of X G z_intT,PySem.W.mg_none_of X G z_listT,PySem.W.mg_none_of X G z_boolT⟩
 have G_HOUSE_BOUNDS:=PySem.W.mg_of X G y_HOUSE_BOUNDS;have N_HOUSE_BOUNDS:∀H,Rep K H (.tuple [(.tuple [(.int 1),(.int 1000)]),(.tuple [(.int 0),(.int 1000)])]) (.ref ga_HOUSE_BOUNDS):=λH=>(.tup (zm0 (xs:=[.ref ga_HOUSE_BOUNDS_0,.ref ga_HOUSE_BOUNDS_1]) yl_HOUSE_BOUNDS (Nat.le_of_ble_eq_true rfl) (.cons rfl (.cons rfl .nil))) (.cons (.tup (zm0 (xs:=[.int 1,.int 1000]) yl_HOUSE_BOUNDS_0 (Nat.le_of_ble_eq_true rfl) (.cons ⟨_,rfl⟩ (.cons ⟨_,rfl⟩ .nil))) (.cons .int (.cons .int .nil))) (.cons (.tup (zm0 (xs:=[.int 0,.int 1000]) yl_HOUSE_BOUNDS_1 (Nat.le_of_ble_eq_true rfl) (.cons ⟨_,rfl⟩ (.cons ⟨_,rfl⟩ .nil))) (.cons .int (.cons .int .nil))) .nil)))
 have G_MOST_HOUSES:=PySem.W.mg_of X G y_MOST_HOUSES;have G_MOST_ORDERED:=PySem.W.mg_of X G y_MOST_ORDERED;have F0:=yp (st:=x5) l0 c0 k0;have b0:=F0.binds (ps:=["thing"]) λ_ _ _ _ _ _ us hl=>by obtain⟨_,rfl⟩:=zcg hl;rfl
 have F1:=yp (st:=x6) l1 c1 k1;have b1:=F1.binds (ps:=["thing", "least", "most"]) λ_ _ _ _ _ _ us hl=>by obtain⟨_,_,_,rfl⟩:=zov hl;rfl
 have F2:=yp (st:=xr) l2 c2 k2;have b2:=F2.binds (ps:=["thing", "bounds"]) λ_ _ _ _ _ _ us hl=>by obtain⟨_,_,rfl⟩:=jh hl;rfl
 have F3:=yp (st:=xt) l3 c3 k3;have b3:=F3.binds (ps:=["thing"]) λ_ _ _ _ _ _ us hl=>by obtain⟨_,rfl⟩:=zcg hl;rfl
 have F4:=yp (st:=x8) l4 c4 k4;have b4:=F4.binds (ps:=["road", "time"]) λ_ _ _ _ _ _ us hl=>by obtain⟨_,_,rfl⟩:=jh hl;rfl
 have F5:=yp (st:=xu) l5 c5 k5;have b5:=F5.binds (ps:=["road", "time"]) λ_ _ _ _ _ _ us hl=>by obtain⟨_,_,rfl⟩:=jh hl;rfl
 have F6:=yp (st:=x9) l6 c6 k6;have b6:=F6.binds (ps:=["road"]) λ_ _ _ _ _ _ us hl=>by obtain⟨_,rfl⟩:=zcg hl;rfl
 have F7:=yp (st:=xg) l7 c7 k7;have b7:=F7.binds (ps:=["road"]) λ_ _ _ _ _ _ us hl=>by obtain⟨_,rfl⟩:=zcg hl;rfl
 have F8:=yp (st:=wk) l8 c8 k8;have b8:=F8.binds (ps:=["road", "time"]) λ_ _ _ _ _ _ us hl=>by obtain⟨_,_,rfl⟩:=jh hl;rfl
 have F9:=yp (st:=wa) l9 c9 k9;have b9:=F9.binds (ps:=["road", "time"]) λ_ _ _ _ _ _ us hl=>by obtain⟨_,_,rfl⟩:=jh hl;rfl
 have F10:=yp (st:=xh) l10 c10 k10;have b10:=F10.binds (ps:=["road", "thing"]) λ_ _ _ _ _ _ us hl=>by obtain⟨_,_,rfl⟩:=jh hl;rfl
 have F11:=yp (st:=wl) l11 c11 k11;have b11:=F11.binds (ps:=["road", "order"]) λ_ _ _ _ _ _ us hl=>by obtain⟨_,_,rfl⟩:=jh hl;rfl
 have F12:=yp (st:=xi) l12 c12 k12;have b12:=F12.binds (ps:=["road"]) λ_ _ _ _ _ _ us hl=>by obtain⟨_,rfl⟩:=zcg hl;rfl
 have F13:=yp (st:=xj) l13 c13 k13;have b13:=F13.binds (ps:=["many"]) λ_ _ _ _ _ _ us hl=>by obtain⟨_,rfl⟩:=zcg hl;rfl
 have F14:=yp (st:=xk) l14 c14 k14;have b14:=F14.binds (ps:=["road", "time"]) λ_ _ _ _ _ _ us hl=>by obtain⟨_,_,rfl⟩:=jh hl;rfl
 have F15:=yp (st:=yy) l15 c15 k15;have b15:=F15.binds (ps:=["need", "askings"]) λ_ _ _ _ _ _ us hl=>by obtain⟨_,_,rfl⟩:=jh hl;rfl
 have F16:=yp (st:=yz) l16 c16 k16;have b16:=F16.binds (ps:=["need", "askings"]) λ_ _ _ _ _ _ us hl=>by obtain⟨_,_,rfl⟩:=jh hl;rfl
 have F17:=yp (st:=y0) l17 c17 k17;have b17:=F17.binds (ps:=["need", "askings"]) λ_ _ _ _ _ _ us hl=>by obtain⟨_,_,rfl⟩:=jh hl;rfl
 have F18:=yp (st:=xl) l18 c18 k18;have b18:=F18.binds (ps:=["need", "askings", "thing", "free"]) λ_ _ _ _ _ _ us hl=>by obtain⟨_,_,_,_,rfl⟩:=zwv hl;rfl
 have F19:=yp (st:=yt) l19 c19 k19;have b19:=F19.binds (ps:=["need", "askings", "thing"]) λ_ _ _ _ _ _ us hl=>by obtain⟨_,_,_,rfl⟩:=zov hl;rfl
 have F20:=yp (st:=yu) l20 c20 k20;have b20:=F20.binds (ps:=["need", "askings", "schedule"]) λ_ _ _ _ _ _ us hl=>by obtain⟨_,_,_,rfl⟩:=zov hl;rfl
 have F21:=yp (st:=ym) l21 c21 k21;have b21:=F21.binds (ps:=["schedules"]) λ_ _ _ _ _ _ us hl=>by obtain⟨_,rfl⟩:=zcg hl;rfl
 have F22:=yp (st:=y3) l22 c22 k22;have b22:=F22.binds (ps:=["need", "askings"]) λ_ _ _ _ _ _ us hl=>by obtain⟨_,_,rfl⟩:=jh hl;rfl
 have F23:=yp (st:=xa) l23 c23 k23;have b23:=F23.binds (ps:=["need", "askings"]) λ_ _ _ _ _ _ us hl=>by obtain⟨_,_,rfl⟩:=jh hl;rfl
 have F24:=yp (st:=y4) l24 c24 k24;have b24:=F24.binds (ps:=["_law_script", "_law_k"]) λ_ _ _ _ _ _ us hl=>by obtain⟨_,_,rfl⟩:=jh hl;rfl
 have F25:=yp (st:=xv) l25 c25 k25;have b25:=F25.binds (ps:=["_law_seed"]) λ_ _ _ _ _ _ us hl=>by obtain⟨_,rfl⟩:=zcg hl;rfl
 have F26:=yp (st:=xb) l26 c26 k26;have b26:=F26.binds (ps:=["_law_cell"]) λ_ _ _ _ _ _ us hl=>by obtain⟨_,rfl⟩:=zcg hl;rfl
 have F27:=yp (st:=xw) l27 c27 k27;have b27:=F27.binds (ps:=["_law_pen", "_law_many"]) λ_ _ _ _ _ _ us hl=>by obtain⟨_,_,rfl⟩:=jh hl;rfl
 have F28:=yp (st:=xx) l28 c28 k28;have b28:=F28.binds (ps:=["_law_pen"]) λ_ _ _ _ _ _ us hl=>by obtain⟨_,rfl⟩:=zcg hl;rfl
 have F29:=yp (st:=y6) l29 c29 k29;have b29:=F29.binds (ps:=["_law_pen"]) λ_ _ _ _ _ _ us hl=>by obtain⟨_,rfl⟩:=zcg hl;rfl
 have F30:=yp (st:=xm) l30 c30 k30;have b30:=F30.binds (ps:=["_law_pen", "_law_many"]) λ_ _ _ _ _ _ us hl=>by obtain⟨_,_,rfl⟩:=jh hl;rfl
 have F31:=yp (st:=yn) l31 c31 k31;have b31:=F31.binds (ps:=["_law_road_here", "_law_time"]) λ_ _ _ _ _ _ us hl=>by obtain⟨_,_,rfl⟩:=jh hl;rfl
 have F32:=yp (st:=yh) l32 c32 k32;have b32:=F32.binds (ps:=["_law_road_here", "_law_time", "_law_order_here"]) λ_ _ _ _ _ _ us hl=>by obtain⟨_,_,_,rfl⟩:=zov hl;rfl
 have F33:=yp (st:=ye) l33 c33 k33;have b33:=F33.binds (ps:=["_law_need", "_law_askings_here"]) λ_ _ _ _ _ _ us hl=>by obtain⟨_,_,rfl⟩:=jh hl;rfl
 have F34:=yp (st:=jj) l34 c34 k34;refine⟨PySem.W.fnOf "law" "law" (zf jj) (zd jj) (za jj) .none kV34 dc34 pm34 an34 cd34 ct34,λs v=>.of_eq rfl,λbase _ _ hB hC=>?_⟩;have C_is_whole:yg l.prog w K mg base _ "is_whole" ["thing"] _:=⟨_,_,zhk B F0  ,b0,k0,PySem.W.mg_of X G a0⟩
 have C_times_of:yg l.prog w K mg base _ "times_of" ["road", "time"] _:=⟨_,_,zhn B F4  ,b4,k4,PySem.W.mg_of X G a4⟩
 have C_needs_of:yg l.prog w K mg base _ "needs_of" ["road"] _:=⟨_,_,zho B F6  ,b6,k6,PySem.W.mg_of X G a6⟩
 have C_all_orders:yg l.prog w K mg base _ "all_orders" ["many"] _:=⟨_,_,zd6 B F13  ,b13,k13,PySem.W.mg_of X G a13⟩
 have C_done_by_time:yg l.prog w K mg base _ "done_by_time" ["need", "askings"] _:=⟨_,_,zcc B F15  ,b15,k15,PySem.W.mg_of X G a15⟩
 have C_done_blindly:yg l.prog w K mg base _ "done_blindly" ["need", "askings"] _:=⟨_,_,zcd B F16  ,b16,k16,PySem.W.mg_of X G a16⟩
 have C_longer_by_one:yg l.prog w K mg base _ "longer_by_one" ["need", "askings", "schedule"] _:=⟨_,_,zbw B F20  ,b20,k20,PySem.W.mg_of X G a20⟩
 have C_soonest_of_each:yg l.prog w K mg base _ "soonest_of_each" ["schedules"] _:=⟨_,_,zau B F21  ,b21,k21,PySem.W.mg_of X G a21⟩
 have C__law_cell_at:yg l.prog w K mg base _ "_law_cell_at" ["_law_script", "_law_k"] _:=⟨_,_,zca B F24  ,b24,k24,PySem.W.mg_of X G a24⟩
 have C__law_next:yg l.prog w K mg base _ "_law_next" ["_law_seed"] _:=⟨_,_,zf4 B F25  ,b25,k25,PySem.W.mg_of X G a25⟩
 have C__law_pen_of:yg l.prog w K mg base _ "_law_pen_of" ["_law_cell"] _:=⟨_,_,zdh B F26  ,b26,k26,PySem.W.mg_of X G a26⟩
 have C_whole_in:yg l.prog w K mg base _ "whole_in" ["thing", "least", "most"] _:=⟨_,_,zhl B F1  C_is_whole,b1,k1,PySem.W.mg_of X G a1⟩
 have C_turned_at:yg l.prog w K mg base _ "turned_at" ["road", "time"] _:=⟨_,_,zf7 B F5  C_times_of,b5,k5,PySem.W.mg_of X G a5⟩
 have C_least_time:yg l.prog w K mg base _ "least_time" ["road"] _:=⟨_,_,zd4 B F7  C_needs_of,b7,k7,PySem.W.mg_of X G a7⟩
 have C_blind_of:yg l.prog w K mg base _ "blind_of" ["road", "time"] _:=⟨_,_,zhp B F9  C_needs_of,b9,k9,PySem.W.mg_of X G a9⟩
 have C_order_good:yg l.prog w K mg base _ "order_good" ["road", "thing"] _:=⟨_,_,zd5 B F10  C_is_whole,b10,k10,PySem.W.mg_of X G a10⟩
 have C_vain_askings:yg l.prog w K mg base _ "vain_askings" ["need", "askings"] _:=⟨_,_,zce B F17  C_done_blindly,b17,k17,PySem.W.mg_of X G a17⟩
 have C_schedule_for:yg l.prog w K mg base _ "schedule_for" ["need", "askings"] _:=⟨_,_,zcb B F22  C_longer_by_one C_soonest_of_each,b22,k22,PySem.W.mg_of X G a22⟩
 have C__law_draw:yg l.prog w K mg base _ "_law_draw" ["_law_pen", "_law_many"] _:=⟨_,_,zf5 B F27  C__law_next,b27,k27,PySem.W.mg_of X G a27⟩
 have C_wholes_in:yg l.prog w K mg base _ "wholes_in" ["thing", "bounds"] _:=⟨_,_,zf9 B F2  C_whole_in,b2,k2,PySem.W.mg_of X G a2⟩
 have C_vain_of:yg l.prog w K mg base _ "vain_of" ["road", "time"] _:=⟨_,_,zi5 B F8  C_turned_at C_needs_of,b8,k8,PySem.W.mg_of X G a8⟩
 have C_ordered:yg l.prog w K mg base _ "ordered" ["road", "order"] _:=⟨_,_,zi7 B F11  C_order_good,b11,k11,PySem.W.mg_of X G a11⟩
 have C_entry_good:yg l.prog w K mg base _ "entry_good" ["need", "askings", "thing", "free"] _:=⟨_,_,zea B F18  C_whole_in,b18,k18,PySem.W.mg_of X G a18⟩
 have C_most_served:yg l.prog w K mg base _ "most_served" ["need", "askings"] _:=⟨_,_,zdm B F23  C_schedule_for,b23,k23,PySem.W.mg_of X G a23⟩
 have C__law_road:yg l.prog w K mg base _ "_law_road" ["_law_pen"] _:=⟨_,_,zf8 B F28  C__law_draw,b28,k28,PySem.W.mg_of X G a28⟩
 have C__law_askings:yg l.prog w K mg base _ "_law_askings" ["_law_pen"] _:=⟨_,_,zcf B F29  C__law_draw,b29,k29,PySem.W.mg_of X G a29⟩
 have C__law_order:yg l.prog w K mg base _ "_law_order" ["_law_pen", "_law_many"] _:=⟨_,_,zd9 B F30  C__law_draw,b30,k30,PySem.W.mg_of X G a30⟩
 have C_road_good:yg l.prog w K mg base _ "road_good" ["thing"] _:=⟨_,_,zga B F3 G_MOST_HOUSES G_HOUSE_BOUNDS N_HOUSE_BOUNDS C_wholes_in,b3,k3,PySem.W.mg_of X G a3⟩
 have C_best_order:yg l.prog w K mg base _ "best_order" ["road"] _:=⟨_,_,zd8 B F12 hB hC hcd  ,b12,k12,PySem.W.mg_of X G a12⟩
 have C_least_vain:yg l.prog w K mg base _ "least_vain" ["road", "time"] _:=⟨_,_,zd7 B F14 G_MOST_ORDERED C_vain_of C_ordered C_all_orders,b14,k14,PySem.W.mg_of X G a14⟩
 have C_schedule_good:yg l.prog w K mg base _ "schedule_good" ["need", "askings", "thing"] _:=⟨_,_,zbz B F19  C_entry_good,b19,k19,PySem.W.mg_of X G a19⟩
 have C__law_time_right:yg l.prog w K mg base _ "_law_time_right" ["_law_road_here", "_law_time"] _:=⟨_,_,zay B F31  C_times_of C_turned_at C_least_time C_vain_of C_blind_of,b31,k31,PySem.W.mg_of X G a31⟩
 have C__law_orders_right:yg l.prog w K mg base _ "_law_orders_right" ["_law_road_here", "_law_time", "_law_order_here"] _:=⟨_,_,jx B F32  C_road_good C_least_time C_vain_of C_ordered C_best_order C_least_vain,b32,k32,PySem.W.mg_of X G a32⟩
 have C__law_askings_right:yg l.prog w K mg base _ "_law_askings_right" ["_law_need", "_law_askings_here"] _:=⟨_,_,jo B F33  C_done_by_time C_done_blindly C_vain_askings C_schedule_good C_schedule_for C_most_served,b33,k33,PySem.W.mg_of X G a33⟩
 exact zt5 B F34  C__law_cell_at C__law_pen_of C__law_draw C__law_road C__law_askings C__law_order C__law_time_right C__law_orders_right C__law_askings_right
theorem nF{a d s}{g:FuncData}:(⟨a,d,.func g,s⟩:Obj)≠zb8:=λz=>by cases z
theorem all_mkT{l:PySem.W.OpenLaw}{w:World}{K:PySem.W.Frag}{h:Heap}{mg:Str->Option Value}{fa f0 f1 f2 f3 f4 f5 f6 f7 f8 f9 f10 f11 f12 f13 f14 f15 f16 f17 f18 f19 f20 f21 f22 f23 f24 f25 f26 f27 f28 f29 f30 f31 f32 f33 f34:Addr}(X:K.In h)(G:h.Ns mainGlobals mg)(hfa:mg "law" = some (.ref fa))
  {od0 an0:Option Addr}{sl0:Array (Option Value)}{oc0 kV0 dc0 pm0 cd0 ct0:Value}
  (a0:PySem.W.nsIn K mainGlobals "is_whole" = some (some (.ref f0))) (l0:K.lookup f0=some ⟨oc0,od0,.func (PySem.W.fnOf "is_whole" "is_whole" (zf x5) (zd x5) (za x5) .none kV0 dc0 pm0 an0 cd0 ct0),sl0⟩) (c0:PySem.W.codeIn K cd0 "is_whole" = true) (k0:PySem.W.keepIn K (.ref f0)=true)
  {od1 an1:Option Addr}{sl1:Array (Option Value)}{oc1 kV1 dc1 pm1 cd1 ct1:Value}
  (a1:PySem.W.nsIn K mainGlobals "whole_in" = some (some (.ref f1))) (l1:K.lookup f1=some ⟨oc1,od1,.func (PySem.W.fnOf "whole_in" "whole_in" (zf x6) (zd x6) (za x6) .none kV1 dc1 pm1 an1 cd1 ct1),sl1⟩) (c1:PySem.W.codeIn K cd1 "whole_in" = true) (k1:PySem.W.keepIn K (.ref f1)=true)
  {od2 an2:Option Addr}{sl2:Array (Option Value)}{oc2 kV2 dc2 pm2 cd2 ct2:Value}
  (a2:PySem.W.nsIn K mainGlobals "wholes_in" = some (some (.ref f2))) (l2:K.lookup f2=some ⟨oc2,od2,.func (PySem.W.fnOf "wholes_in" "wholes_in" (zf xr) (zd xr) (za xr) .none kV2 dc2 pm2 an2 cd2 ct2),sl2⟩) (c2:PySem.W.codeIn K cd2 "wholes_in" = true) (k2:PySem.W.keepIn K (.ref f2)=true)
  {od3 an3:Option Addr}{sl3:Array (Option Value)}{oc3 kV3 dc3 pm3 cd3 ct3:Value}
  (a3:PySem.W.nsIn K mainGlobals "road_good" = some (some (.ref f3))) (l3:K.lookup f3=some ⟨oc3,od3,.func (PySem.W.fnOf "road_good" "road_good" (zf xt) (zd xt) (za xt) .none kV3 dc3 pm3 an3 cd3 ct3),sl3⟩) (c3:PySem.W.codeIn K cd3 "road_good" = true) (k3:PySem.W.keepIn K (.ref f3)=true)
  {od4 an4:Option Addr}{sl4:Array (Option Value)}{oc4 kV4 dc4 pm4 cd4 ct4:Value}
  (a4:PySem.W.nsIn K mainGlobals "times_of" = some (some (.ref f4))) (l4:K.lookup f4=some ⟨oc4,od4,.func (PySem.W.fnOf "times_of" "times_of" (zf x8) (zd x8) (za x8) .none kV4 dc4 pm4 an4 cd4 ct4),sl4⟩) (c4:PySem.W.codeIn K cd4 "times_of" = true) (k4:PySem.W.keepIn K (.ref f4)=true)
  {od5 an5:Option Addr}{sl5:Array (Option Value)}{oc5 kV5 dc5 pm5 cd5 ct5:Value}
  (a5:PySem.W.nsIn K mainGlobals "turned_at" = some (some (.ref f5))) (l5:K.lookup f5=some ⟨oc5,od5,.func (PySem.W.fnOf "turned_at" "turned_at" (zf xu) (zd xu) (za xu) .none kV5 dc5 pm5 an5 cd5 ct5),sl5⟩) (c5:PySem.W.codeIn K cd5 "turned_at" = true) (k5:PySem.W.keepIn K (.ref f5)=true)
  {od6 an6:Option Addr}{sl6:Array (Option Value)}{oc6 kV6 dc6 pm6 cd6 ct6:Value}
  (a6:PySem.W.nsIn K mainGlobals "needs_of" = some (some (.ref f6))) (l6:K.lookup f6=some ⟨oc6,od6,.func (PySem.W.fnOf "needs_of" "needs_of" (zf x9) (zd x9) (za x9) .none kV6 dc6 pm6 an6 cd6 ct6),sl6⟩) (c6:PySem.W.codeIn K cd6 "needs_of" = true) (k6:PySem.W.keepIn K (.ref f6)=true)
  {od7 an7:Option Addr}{sl7:Array (Option Value)}{oc7 kV7 dc7 pm7 cd7 ct7:Value}
  (a7:PySem.W.nsIn K mainGlobals "least_time" = some (some (.ref f7))) (l7:K.lookup f7=some ⟨oc7,od7,.func (PySem.W.fnOf "least_time" "least_time" (zf xg) (zd xg) (za xg) .none kV7 dc7 pm7 an7 cd7 ct7),sl7⟩) (c7:PySem.W.codeIn K cd7 "least_time" = true) (k7:PySem.W.keepIn K (.ref f7)=true)
  {od8 an8:Option Addr}{sl8:Array (Option Value)}{oc8 kV8 dc8 pm8 cd8 ct8:Value}
  (a8:PySem.W.nsIn K mainGlobals "vain_of" = some (some (.ref f8))) (l8:K.lookup f8=some ⟨oc8,od8,.func (PySem.W.fnOf "vain_of" "vain_of" (zf wk) (zd wk) (za wk) .none kV8 dc8 pm8 an8 cd8 ct8),sl8⟩) (c8:PySem.W.codeIn K cd8 "vain_of" = true) (k8:PySem.W.keepIn K (.ref f8)=true)
  {od9 an9:Option Addr}{sl9:Array (Option Value)}{oc9 kV9 dc9 pm9 cd9 ct9:Value}
  (a9:PySem.W.nsIn K mainGlobals "blind_of" = some (some (.ref f9))) (l9:K.lookup f9=some ⟨oc9,od9,.func (PySem.W.fnOf "blind_of" "blind_of" (zf wa) (zd wa) (za wa) .none kV9 dc9 pm9 an9 cd9 ct9),sl9⟩) (c9:PySem.W.codeIn K cd9 "blind_of" = true) (k9:PySem.W.keepIn K (.ref f9)=true)
  {od10 an10:Option Addr}{sl10:Array (Option Value)}{oc10 kV10 dc10 pm10 cd10 ct10:Value}
  (a10:PySem.W.nsIn K mainGlobals "order_good" = some (some (.ref f10))) (l10:K.lookup f10=some ⟨oc10,od10,.func (PySem.W.fnOf "order_good" "order_good" (zf xh) (zd xh) (za xh) .none kV10 dc10 pm10 an10 cd10 ct10),sl10⟩) (c10:PySem.W.codeIn K cd10 "order_good" = true) (k10:PySem.W.keepIn K (.ref f10)=true)
  {od11 an11:Option Addr}{sl11:Array (Option Value)}{oc11 kV11 dc11 pm11 cd11 ct11:Value}
  (a11:PySem.W.nsIn K mainGlobals "ordered" = some (some (.ref f11))) (l11:K.lookup f11=some ⟨oc11,od11,.func (PySem.W.fnOf "ordered" "ordered" (zf wl) (zd wl) (za wl) .none kV11 dc11 pm11 an11 cd11 ct11),sl11⟩) (c11:PySem.W.codeIn K cd11 "ordered" = true) (k11:PySem.W.keepIn K (.ref f11)=true)
  {od12 an12:Option Addr}{sl12:Array (Option Value)}{oc12 kV12 dc12 pm12 cd12 ct12:Value}
  (a12:PySem.W.nsIn K mainGlobals "best_order" = some (some (.ref f12))) (l12:K.lookup f12=some ⟨oc12,od12,.func (PySem.W.fnOf "best_order" "best_order" (zf xi) (zd xi) (za xi) .none kV12 dc12 pm12 an12 cd12 ct12),sl12⟩) (c12:PySem.W.codeIn K cd12 "best_order" = true) (k12:PySem.W.keepIn K (.ref f12)=true)
  {od13 an13:Option Addr}{sl13:Array (Option Value)}{oc13 kV13 dc13 pm13 cd13 ct13:Value}
  (a13:PySem.W.nsIn K mainGlobals "all_orders" = some (some (.ref f13))) (l13:K.lookup f13=some ⟨oc13,od13,.func (PySem.W.fnOf "all_orders" "all_orders" (zf xj) (zd xj) (za xj) .none kV13 dc13 pm13 an13 cd13 ct13),sl13⟩) (c13:PySem.W.codeIn K cd13 "all_orders" = true) (k13:PySem.W.keepIn K (.ref f13)=true)
  {od14 an14:Option Addr}{sl14:Array (Option Value)}{oc14 kV14 dc14 pm14 cd14 ct14:Value}
  (a14:PySem.W.nsIn K mainGlobals "least_vain" = some (some (.ref f14))) (l14:K.lookup f14=some ⟨oc14,od14,.func (PySem.W.fnOf "least_vain" "least_vain" (zf xk) (zd xk) (za xk) .none kV14 dc14 pm14 an14 cd14 ct14),sl14⟩) (c14:PySem.W.codeIn K cd14 "least_vain" = true) (k14:PySem.W.keepIn K (.ref f14)=true)
  {od15 an15:Option Addr}{sl15:Array (Option Value)}{oc15 kV15 dc15 pm15 cd15 ct15:Value}
  (a15:PySem.W.nsIn K mainGlobals "done_by_time" = some (some (.ref f15))) (l15:K.lookup f15=some ⟨oc15,od15,.func (PySem.W.fnOf "done_by_time" "done_by_time" (zf yy) (zd yy) (za yy) .none kV15 dc15 pm15 an15 cd15 ct15),sl15⟩) (c15:PySem.W.codeIn K cd15 "done_by_time" = true) (k15:PySem.W.keepIn K (.ref f15)=true)
  {od16 an16:Option Addr}{sl16:Array (Option Value)}{oc16 kV16 dc16 pm16 cd16 ct16:Value}
  (a16:PySem.W.nsIn K mainGlobals "done_blindly" = some (some (.ref f16))) (l16:K.lookup f16=some ⟨oc16,od16,.func (PySem.W.fnOf "done_blindly" "done_blindly" (zf yz) (zd yz) (za yz) .none kV16 dc16 pm16 an16 cd16 ct16),sl16⟩) (c16:PySem.W.codeIn K cd16 "done_blindly" = true) (k16:PySem.W.keepIn K (.ref f16)=true)
  {od17 an17:Option Addr}{sl17:Array (Option Value)}{oc17 kV17 dc17 pm17 cd17 ct17:Value}
  (a17:PySem.W.nsIn K mainGlobals "vain_askings" = some (some (.ref f17))) (l17:K.lookup f17=some ⟨oc17,od17,.func (PySem.W.fnOf "vain_askings" "vain_askings" (zf y0) (zd y0) (za y0) .none kV17 dc17 pm17 an17 cd17 ct17),sl17⟩) (c17:PySem.W.codeIn K cd17 "vain_askings" = true) (k17:PySem.W.keepIn K (.ref f17)=true)
  {od18 an18:Option Addr}{sl18:Array (Option Value)}{oc18 kV18 dc18 pm18 cd18 ct18:Value}
  (a18:PySem.W.nsIn K mainGlobals "entry_good" = some (some (.ref f18))) (l18:K.lookup f18=some ⟨oc18,od18,.func (PySem.W.fnOf "entry_good" "entry_good" (zf xl) (zd xl) (za xl) .none kV18 dc18 pm18 an18 cd18 ct18),sl18⟩) (c18:PySem.W.codeIn K cd18 "entry_good" = true) (k18:PySem.W.keepIn K (.ref f18)=true)
  {od19 an19:Option Addr}{sl19:Array (Option Value)}{oc19 kV19 dc19 pm19 cd19 ct19:Value}
  (a19:PySem.W.nsIn K mainGlobals "schedule_good" = some (some (.ref f19))) (l19:K.lookup f19=some ⟨oc19,od19,.func (PySem.W.fnOf "schedule_good" "schedule_good" (zf yt) (zd yt) (za yt) .none kV19 dc19 pm19 an19 cd19 ct19),sl19⟩) (c19:PySem.W.codeIn K cd19 "schedule_good" = true) (k19:PySem.W.keepIn K (.ref f19)=true)
  {od20 an20:Option Addr}{sl20:Array (Option Value)}{oc20 kV20 dc20 pm20 cd20 ct20:Value}
  (a20:PySem.W.nsIn K mainGlobals "longer_by_one" = some (some (.ref f20))) (l20:K.lookup f20=some ⟨oc20,od20,.func (PySem.W.fnOf "longer_by_one" "longer_by_one" (zf yu) (zd yu) (za yu) .none kV20 dc20 pm20 an20 cd20 ct20),sl20⟩) (c20:PySem.W.codeIn K cd20 "longer_by_one" = true) (k20:PySem.W.keepIn K (.ref f20)=true)
  {od21 an21:Option Addr}{sl21:Array (Option Value)}{oc21 kV21 dc21 pm21 cd21 ct21:Value}
  (a21:PySem.W.nsIn K mainGlobals "soonest_of_each" = some (some (.ref f21))) (l21:K.lookup f21=some ⟨oc21,od21,.func (PySem.W.fnOf "soonest_of_each" "soonest_of_each" (zf ym) (zd ym) (za ym) .none kV21 dc21 pm21 an21 cd21 ct21),sl21⟩) (c21:PySem.W.codeIn K cd21 "soonest_of_each" = true) (k21:PySem.W.keepIn K (.ref f21)=true)
  {od22 an22:Option Addr}{sl22:Array (Option Value)}{oc22 kV22 dc22 pm22 cd22 ct22:Value}
  (a22:PySem.W.nsIn K mainGlobals "schedule_for" = some (some (.ref f22))) (l22:K.lookup f22=some ⟨oc22,od22,.func (PySem.W.fnOf "schedule_for" "schedule_for" (zf y3) (zd y3) (za y3) .none kV22 dc22 pm22 an22 cd22 ct22),sl22⟩) (c22:PySem.W.codeIn K cd22 "schedule_for" = true) (k22:PySem.W.keepIn K (.ref f22)=true)
  {od23 an23:Option Addr}{sl23:Array (Option Value)}{oc23 kV23 dc23 pm23 cd23 ct23:Value}
  (a23:PySem.W.nsIn K mainGlobals "most_served" = some (some (.ref f23))) (l23:K.lookup f23=some ⟨oc23,od23,.func (PySem.W.fnOf "most_served" "most_served" (zf xa) (zd xa) (za xa) .none kV23 dc23 pm23 an23 cd23 ct23),sl23⟩) (c23:PySem.W.codeIn K cd23 "most_served" = true) (k23:PySem.W.keepIn K (.ref f23)=true)
  {od24 an24:Option Addr}{sl24:Array (Option Value)}{oc24 kV24 dc24 pm24 cd24 ct24:Value}
  (a24:PySem.W.nsIn K mainGlobals "_law_cell_at" = some (some (.ref f24))) (l24:K.lookup f24=some ⟨oc24,od24,.func (PySem.W.fnOf "_law_cell_at" "_law_cell_at" (zf y4) (zd y4) (za y4) .none kV24 dc24 pm24 an24 cd24 ct24),sl24⟩) (c24:PySem.W.codeIn K cd24 "_law_cell_at" = true) (k24:PySem.W.keepIn K (.ref f24)=true)
  {od25 an25:Option Addr}{sl25:Array (Option Value)}{oc25 kV25 dc25 pm25 cd25 ct25:Value}
  (a25:PySem.W.nsIn K mainGlobals "_law_next" = some (some (.ref f25))) (l25:K.lookup f25=some ⟨oc25,od25,.func (PySem.W.fnOf "_law_next" "_law_next" (zf xv) (zd xv) (za xv) .none kV25 dc25 pm25 an25 cd25 ct25),sl25⟩) (c25:PySem.W.codeIn K cd25 "_law_next" = true) (k25:PySem.W.keepIn K (.ref f25)=true)
  {od26 an26:Option Addr}{sl26:Array (Option Value)}{oc26 kV26 dc26 pm26 cd26 ct26:Value}
  (a26:PySem.W.nsIn K mainGlobals "_law_pen_of" = some (some (.ref f26))) (l26:K.lookup f26=some ⟨oc26,od26,.func (PySem.W.fnOf "_law_pen_of" "_law_pen_of" (zf xb) (zd xb) (za xb) .none kV26 dc26 pm26 an26 cd26 ct26),sl26⟩) (c26:PySem.W.codeIn K cd26 "_law_pen_of" = true) (k26:PySem.W.keepIn K (.ref f26)=true)
  {od27 an27:Option Addr}{sl27:Array (Option Value)}{oc27 kV27 dc27 pm27 cd27 ct27:Value}
  (a27:PySem.W.nsIn K mainGlobals "_law_draw" = some (some (.ref f27))) (l27:K.lookup f27=some ⟨oc27,od27,.func (PySem.W.fnOf "_law_draw" "_law_draw" (zf xw) (zd xw) (za xw) .none kV27 dc27 pm27 an27 cd27 ct27),sl27⟩) (c27:PySem.W.codeIn K cd27 "_law_draw" = true) (k27:PySem.W.keepIn K (.ref f27)=true)
  {od28 an28:Option Addr}{sl28:Array (Option Value)}{oc28 kV28 dc28 pm28 cd28 ct28:Value}
  (a28:PySem.W.nsIn K mainGlobals "_law_road" = some (some (.ref f28))) (l28:K.lookup f28=some ⟨oc28,od28,.func (PySem.W.fnOf "_law_road" "_law_road" (zf xx) (zd xx) (za xx) .none kV28 dc28 pm28 an28 cd28 ct28),sl28⟩) (c28:PySem.W.codeIn K cd28 "_law_road" = true) (k28:PySem.W.keepIn K (.ref f28)=true)
  {od29 an29:Option Addr}{sl29:Array (Option Value)}{oc29 kV29 dc29 pm29 cd29 ct29:Value}
  (a29:PySem.W.nsIn K mainGlobals "_law_askings" = some (some (.ref f29))) (l29:K.lookup f29=some ⟨oc29,od29,.func (PySem.W.fnOf "_law_askings" "_law_askings" (zf y6) (zd y6) (za y6) .none kV29 dc29 pm29 an29 cd29 ct29),sl29⟩) (c29:PySem.W.codeIn K cd29 "_law_askings" = true) (k29:PySem.W.keepIn K (.ref f29)=true)
  {od30 an30:Option Addr}{sl30:Array (Option Value)}{oc30 kV30 dc30 pm30 cd30 ct30:Value}
  (a30:PySem.W.nsIn K mainGlobals "_law_order" = some (some (.ref f30))) (l30:K.lookup f30=some ⟨oc30,od30,.func (PySem.W.fnOf "_law_order" "_law_order" (zf xm) (zd xm) (za xm) .none kV30 dc30 pm30 an30 cd30 ct30),sl30⟩) (c30:PySem.W.codeIn K cd30 "_law_order" = true) (k30:PySem.W.keepIn K (.ref f30)=true)
  {od31 an31:Option Addr}{sl31:Array (Option Value)}{oc31 kV31 dc31 pm31 cd31 ct31:Value}
  (a31:PySem.W.nsIn K mainGlobals "_law_time_right" = some (some (.ref f31))) (l31:K.lookup f31=some ⟨oc31,od31,.func (PySem.W.fnOf "_law_time_right" "_law_time_right" (zf yn) (zd yn) (za yn) .none kV31 dc31 pm31 an31 cd31 ct31),sl31⟩) (c31:PySem.W.codeIn K cd31 "_law_time_right" = true) (k31:PySem.W.keepIn K (.ref f31)=true)
  {od32 an32:Option Addr}{sl32:Array (Option Value)}{oc32 kV32 dc32 pm32 cd32 ct32:Value}
  (a32:PySem.W.nsIn K mainGlobals "_law_orders_right" = some (some (.ref f32))) (l32:K.lookup f32=some ⟨oc32,od32,.func (PySem.W.fnOf "_law_orders_right" "_law_orders_right" (zf yh) (zd yh) (za yh) .none kV32 dc32 pm32 an32 cd32 ct32),sl32⟩) (c32:PySem.W.codeIn K cd32 "_law_orders_right" = true) (k32:PySem.W.keepIn K (.ref f32)=true)
  {od33 an33:Option Addr}{sl33:Array (Option Value)}{oc33 kV33 dc33 pm33 cd33 ct33:Value}
  (a33:PySem.W.nsIn K mainGlobals "_law_askings_right" = some (some (.ref f33))) (l33:K.lookup f33=some ⟨oc33,od33,.func (PySem.W.fnOf "_law_askings_right" "_law_askings_right" (zf ye) (zd ye) (za ye) .none kV33 dc33 pm33 an33 cd33 ct33),sl33⟩) (c33:PySem.W.codeIn K cd33 "_law_askings_right" = true) (k33:PySem.W.keepIn K (.ref f33)=true)
  {od34 an34:Option Addr}{sl34:Array (Option Value)}{oc34 kV34 dc34 pm34 cd34 ct34:Value}
  (a34:PySem.W.nsIn K mainGlobals "law" = some (some (.ref f34))) (l34:K.lookup f34=some ⟨oc34,od34,.func (PySem.W.fnOf "law" "law" (zf jj) (zd jj) (za jj) .none kV34 dc34 pm34 an34 cd34 ct34),sl34⟩) (c34:PySem.W.codeIn K cd34 "law" = true) (k34:PySem.W.keepIn K (.ref f34)=true)
  (z_len:PySem.W.nsIn K mainGlobals "len" = some none)
  (z_range:PySem.W.nsIn K mainGlobals "range" = some none)
  (z_enumerate:PySem.W.nsIn K mainGlobals "enumerate" = some none)
  (z_sum:PySem.W.nsIn K mainGlobals "sum" = some none)
  (z_min:PySem.W.nsIn K mainGlobals "min" = some none)
  (z_max:PySem.W.nsIn K mainGlobals "max" = some none)
  (z_isinstance:PySem.W.nsIn K mainGlobals "isinstance" = some none)
  (z_all:PySem.W.nsIn K mainGlobals "all" = some none)
  (z_zip:PySem.W.nsIn K mainGlobals "zip" = some none)
  (z_sorted:PySem.W.nsIn K mainGlobals "sorted" = some none)
  (z_tupleT:PySem.W.nsIn K mainGlobals "tuple" = some none)
  (z_intT:PySem.W.nsIn K mainGlobals "int" = some none)
  (z_listT:PySem.W.nsIn K mainGlobals "list" = some none)
  (z_boolT:PySem.W.nsIn K mainGlobals "bool" = some none)
  {gt_HOUSE_BOUNDS_0_0:Tok}{gt_HOUSE_BOUNDS_0_1:Tok}{ga_HOUSE_BOUNDS_0:Addr}{gn_HOUSE_BOUNDS_0:Nat}{gs_HOUSE_BOUNDS_0:Array (Option Value)} (yl_HOUSE_BOUNDS_0:K.lookup ga_HOUSE_BOUNDS_0=some ⟨.type "tuple",none,.seq #[.int 1 gt_HOUSE_BOUNDS_0_0,.int 1000 gt_HOUSE_BOUNDS_0_1] gn_HOUSE_BOUNDS_0,gs_HOUSE_BOUNDS_0⟩) {gt_HOUSE_BOUNDS_1_0:Tok}{gt_HOUSE_BOUNDS_1_1:Tok}{ga_HOUSE_BOUNDS_1:Addr}{gn_HOUSE_BOUNDS_1:Nat}{gs_HOUSE_BOUNDS_1:Array (Option Value)} (yl_HOUSE_BOUNDS_1:K.lookup ga_HOUSE_BOUNDS_1=some ⟨.type "tuple",none,.seq #[.int 0 gt_HOUSE_BOUNDS_1_0,.int 1000 gt_HOUSE_BOUNDS_1_1] gn_HOUSE_BOUNDS_1,gs_HOUSE_BOUNDS_1⟩) {ga_HOUSE_BOUNDS:Addr}{gn_HOUSE_BOUNDS:Nat}{gs_HOUSE_BOUNDS:Array (Option Value)} (yl_HOUSE_BOUNDS:K.lookup ga_HOUSE_BOUNDS=some ⟨.type "tuple",none,.seq #[.ref ga_HOUSE_BOUNDS_0,.ref ga_HOUSE_BOUNDS_1] gn_HOUSE_BOUNDS,gs_HOUSE_BOUNDS⟩)
  (y_HOUSE_BOUNDS:PySem.W.nsIn K mainGlobals "HOUSE_BOUNDS" = some (some (.ref ga_HOUSE_BOUNDS)))
  {t_MOST_HOUSES:Tok} (y_MOST_HOUSES:PySem.W.nsIn K mainGlobals "MOST_HOUSES" = some (some (.int 8 t_MOST_HOUSES)))
  {t_MOST_ORDERED:Tok} (y_MOST_ORDERED:PySem.W.nsIn K mainGlobals "MOST_ORDERED" = some (some (.int 6 t_MOST_ORDERED)))
  {c T:Addr}{ocT:Obj} (hcd:cd12=.ref c) (lc:K.lookup c=some ocT) (hO:HdO ocT T) (hne:c≠T) (gT0:h.get? T=some zb8):∃fd:FuncData,(∀(s:Shared) (v:Value),BindsTo s fd ⟨[v],[]⟩ [("_law_script",v)])/\∃(c:Addr) (oc:Obj),K.lookup c=some oc/\HdO oc T/\c≠T/\∀base:Heap,(wy T K).In base->base.Ns mainGlobals mg->jq mg base->PySem.W.CodeHd base c T->FnOk l.prog w (wy T K) mg base CX0 6 fa fd ["_law_script"] (qm "best_order.<locals>.<lambda>" T (yc (wy T K) zdi)):=by
 have gT:mainGlobals≠T:=zog G gT0;obtain⟨fd,hb,hF⟩:=zt6 (l:=l) (w:=w) (K:=wy T K) (c:=c) (T:=T) (zkb X) G hfa ((zr gT).trans a0) (yb X gT0 l0 nF) (zw X gT0 c0) (zx X gT0 l0) ((zr gT).trans a1) (yb X gT0 l1 nF) (zw X gT0 c1) (zx X gT0 l1) ((zr gT).trans a2) (yb X gT0 l2 nF) (zw X gT0 c2) (zx X gT0 l2) ((zr gT).trans a3) (yb X gT0 l3 nF) (zw X gT0 c3) (zx X gT0 l3) ((zr gT).trans a4) (yb X gT0 l4 nF) (zw X gT0 c4) (zx X gT0 l4) ((zr gT).trans a5) (yb X gT0 l5 nF) (zw X gT0 c5) (zx X gT0 l5) ((zr gT).trans a6) (yb X gT0 l6 nF) (zw X gT0 c6) (zx X gT0 l6) ((zr gT).trans a7) (yb X gT0 l7 nF) (zw X gT0 c7) (zx X gT0 l7) ((zr gT).trans a8) (yb X gT0 l8 nF) (zw X gT0 c8) (zx X gT0 l8) ((zr gT).trans a9) (yb X gT0 l9 nF) (zw X gT0 c9) (zx X gT0 l9) ((zr gT).trans a10) (yb X gT0 l10 nF) (zw X gT0 c10) (zx X gT0 l10) ((zr gT).trans a11) (yb X gT0 l11 nF) (zw X gT0 c11) (zx X gT0 l11) ((zr gT).trans a12) (yb X gT0 l12 nF) (zw X gT0 c12) (zx X gT0 l12) ((zr gT).trans a13) (yb X gT0 l13 nF) (zw X gT0 c13) (zx X gT0 l13) ((zr gT).trans a14) (yb X gT0 l14 nF) (zw X gT0 c14) (zx X gT0 l14) ((zr gT).trans a15) (yb X gT0 l15 nF) (zw X gT0 c15) (zx X gT0 l15) ((zr gT).trans a16) (yb X gT0 l16 nF) (zw X gT0 c16) (zx X gT0 l16) ((zr gT).trans a17) (yb X gT0 l17 nF) (zw X gT0 c17) (zx X gT0 l17) ((zr gT).trans a18) (yb X gT0 l18 nF) (zw X gT0 c18) (zx X gT0 l18) ((zr gT).trans a19) (yb X gT0 l19 nF) (zw X gT0 c19) (zx X gT0 l19) ((zr gT).trans a20) (yb X gT0 l20 nF) (zw X gT0 c20) (zx X gT0 l20) ((zr gT).trans a21) (yb X gT0 l21 nF) (zw X gT0 c21) (zx X gT0 l21) ((zr gT).trans a22) (yb X gT0 l22 nF) (zw X gT0 c22) (zx X gT0 l22) ((zr gT).trans a23) (yb X gT0 l23 nF) (zw X gT0 c23) (zx X gT0 l23) ((zr gT).trans a24) (yb X gT0 l24 nF) (zw X gT0 c24) (zx X gT0 l24) ((zr gT).trans a25) (yb X gT0 l25 nF) (zw X gT0 c25) (zx X gT0 l25) ((zr gT).trans a26) (yb X gT0 l26 nF) (zw X gT0 c26) (zx X gT0 l26) ((zr gT).trans a27) (yb X gT0 l27 nF) (zw X gT0 c27) (zx X gT0 l27) ((zr gT).trans a28) (yb X gT0 l28 nF) (zw X gT0 c28) (zx X gT0 l28) ((zr gT).trans a29) (yb X gT0 l29 nF) (zw X gT0 c29) (zx X gT0 l29) ((zr gT).trans a30) (yb X gT0 l30 nF) (zw X gT0 c30) (zx X gT0 l30) ((zr gT).trans a31) (yb X gT0 l31 nF) (zw X gT0 c31) (zx X gT0 l31) ((zr gT).trans a32) (yb X gT0 l32 nF) (zw X gT0 c32) (zx X gT0 l32) ((zr gT).trans a33) (yb X gT0 l33 nF) (zw X gT0 c33) (zx X gT0 l33) ((zr gT).trans a34) (yb X gT0 l34 nF) (zw X gT0 c34) (zx X gT0 l34) ((zr gT).trans z_len) ((zr gT).trans z_range) ((zr gT).trans z_enumerate) ((zr gT).trans z_sum) ((zr gT).trans z_min) ((zr gT).trans z_max) ((zr gT).trans z_isinstance) ((zr gT).trans z_all) ((zr gT).trans z_zip) ((zr gT).trans z_sorted) ((zr gT).trans z_tupleT) ((zr gT).trans z_intT) ((zr gT).trans z_listT) ((zr gT).trans z_boolT) (yb X gT0 yl_HOUSE_BOUNDS_0 (λz=>by cases z)) (yb X gT0 yl_HOUSE_BOUNDS_1 (λz=>by cases z)) (yb X gT0 yl_HOUSE_BOUNDS (λz=>by cases z)) ((zr gT).trans y_HOUSE_BOUNDS) ((zr gT).trans y_MOST_HOUSES) ((zr gT).trans y_MOST_ORDERED) hcd
 exact⟨fd,hb,c,ocT,lc,hO,hne,hF⟩
theorem walk{l:PySem.W.OpenLaw}{q:Program}{loose:List Str}{XP:(Str->Option Value)->Heap->Prop}{YP:World->Heap->Prop}{d:DefRec}{K:Params->PySem.W.Frag}{T:Addr}(hn:l.most=some 63)(hdf:d.params.defaults = [])
  (hY:∀(w:World) (h:Heap),YP w h->(K w.params).In h/\h.get? T=some zb8)
  (F:∀(w:World) (mg:Str->Option Value) (fa:Addr) (h:Heap),(K w.params).In h->h.get? T=some zb8->h.Ns mainGlobals mg->mg d.name=some (.ref fa) ->
   ∃fd:FuncData,(∀(s:Shared) (u:Value),BindsTo s fd ⟨[u],[]⟩ [("_law_script",u)])/\∃(c:Addr) (oc:Obj),(K w.params).lookup c=some oc/\HdO oc T/\c≠T /\
    ∀base:Heap,(wy T (K w.params)).In base->base.Ns mainGlobals mg->jq mg base->PySem.W.CodeHd base c T->FnOk l.prog w (wy T (K w.params)) mg base CX0 6 fa fd ["_law_script"] (qm "best_order.<locals>.<lambda>" T (yc (wy T (K w.params)) zdi))) :
  PySem.W.WalkO q loose XP YP l.row.toRowW d [] (λf vs=>PySem.call f vs) :=
 L2.walk_ofT (n:=63) (k:=6) (x := "_law_script") (q := "best_order.<locals>.<lambda>") (sp:=λw=>yc (wy T (K w.params)) zdi) hn (by decide) hdf ⟨rfl,by decide,by decide,rfl⟩ hY F (λ_ _ a ns hl hS=>⟨[.scr ns],λr=>r=.val (.bool true),.cons ⟨a,rfl,hS⟩ .nil,⟨ns,rfl,hl,rfl⟩,λv H' r _ rp e=>by subst e;cases rp;rfl⟩)
end My
namespace PySem.W.Fast
def tw16604757931642241180:=()
def tw3999165019552357923:=()
def tw9679702514049678229:=()
def tw15833633895361609299:=()
def tw8343887236060298889:=()
def tw6638497357300883652:=()
def tw18365655101323199515:=()
def tw1097683318973319844:=()
def tw4930615134049980055:=()
def tw18037420358528886220:=()
def tw12204376831187146435:=()
def tw14085403271936242324:=()
def tw16212479951509966845:=()
def tw5122496494975895486:=()
def tw5394435672936424237:=()
def tw13502544052155929634:=()
def tw7935745020356307183:=()
def tw15099098529896871733:=()
def tw16028435993760110665:=()
def tw9507617714728651220:=()
def tw6534473113458248038:=()
def tw4512062856662284040:=()
def tw12147227317342320596:=()
def tw10797278143303283099:=()
def tw955032422261582046:=()
def tw670069011720895005:=()
def tw12144598149116852681:=()
def tw8242099257484057801:=()
def tw4689153130554963739:=()
def tw2254836786808352452:=()
def tw16187292132051064330:=()
def tw17085898981977981749:=()
def tw2332059403909991120:=()
def tw10474955197061330810:=()
def tw13499655910869872803:=()
def tw15444340313890692765:=()
def tw8190007146207581042:=()
def tw446471698701007220:=()
def tw18292498907130190826:=()
def tw10889545618309129488:=()
def tw2653812410541049760:=()
def tw6856449110013235521:=()
def tw11595710628424625811:=()
def tw3083598429834334400:=()
def tw357515181168991718:=()
def tw14887165849137026246:=()
def tw15805511998014246996:=()
def tw10618948370301377765:=()
def tw4731814694769368793:=()
def tw13498181878705738622:=()
def tw7033215395233549611:=()
def tw4330027946729766423:=()
def tw3412196575500075869:=()
def tw10397977479553430559:=()
def tw11138415306491531837:=()
def tw13919579936063198133:=()
def tw16547860850804188894:=()
def tw15287616015787658909:=()
def tw13038621321606171696:=()
def tw12032524545132431985:=()
def tw12844892742155333507:=()
def tw1527577996182490580:=()
def tw10228089955696932840:=()
def tw9187321926920060328:=()
def tw16902447204233838906:=()
def tw2675906419901088777:=()
def tw3028505366592499925:=()
def tw15093665216396163020:=()
def tw16236590444254968302:=()
def tw14076306581693299311:=()
def tw13324370401330170235:=()
def tw13684298171946410703:=()
def tw12784975745700035112:=()
def tw4912289067023053513:=()
def tw9974575024879648615:=()
def tw10588962899428630757:=()
def tw10795320364914036436:=()
def tw9126794438459614210:=()
def tw8084718340309454877:=()
def tw1781002098453287939:=()
def tw7914653969075871212:=()
def tw10607605301162400129:=()
def tw11873433698455911381:=()
def tw10413542861687472906:=()
def tw1729336799914271620:=()
def tw7025353264721689411:=()
def tw4618251896491651130:=()
def tw2283817553435998424:=()
def tw15651721790772172463:=()
def tw2961141980902885442:=()
def tw546264903114073891:=()
def tw3350277399278602744:=()
def tw338194094991547694:=()
def tw17571141361229515901:=()
def tw18112866050358645248:=()
def tw16402479037537077155:=()
def tw6221927736846029650:=()
def tw9340419767864754857:=()
def tw4091893051622012925:=()
end PySem.W.Fast
open PySem PySem.W PyProof.Rows
set_option maxRecDepth 100000 in
set_option maxHeartbeats 0 in
theorem PySem.Challenge.cw_knockpurse_k56_whole_roads_holds : PySem.Challenge.rw_knockpurse_k56_whole_roads.Holds := by
 w_on;o_law;k_head;(case hw=>w_witness2)
 k_fill
 refine My.walk (l:=PySem.Challenge.rw_knockpurse_k56_whole_roads) rfl rfl (λw h Y=>⟨PySem.W.km_in_of Y,PySem.W.km_tabs_of Y _ (.head _)⟩) ?F
 case F=>
  intro w mg fa h KX GT G hmg
  refine' My.all_mkT KX G hmg ?a0 ?l0 ?c0 ?k0 ?a1 ?l1 ?c1 ?k1 ?a2 ?l2 ?c2 ?k2 ?a3 ?l3 ?c3 ?k3 ?a4 ?l4 ?c4 ?k4 ?a5 ?l5 ?c5 ?k5 ?a6 ?l6 ?c6 ?k6 ?a7 ?l7 ?c7 ?k7 ?a8 ?l8 ?c8 ?k8 ?a9 ?l9 ?c9 ?k9 ?a10 ?l10 ?c10 ?k10 ?a11 ?l11 ?c11 ?k11 ?a12 ?l12 ?c12 ?k12 ?a13 ?l13 ?c13 ?k13 ?a14 ?l14 ?c14 ?k14 ?a15 ?l15 ?c15 ?k15 ?a16 ?l16 ?c16 ?k16 ?a17 ?l17 ?c17 ?k17 ?a18 ?l18 ?c18 ?k18 ?a19 ?l19 ?c19 ?k19 ?a20 ?l20 ?c20 ?k20 ?a21 ?l21 ?c21 ?k21 ?a22 ?l22 ?c22 ?k22 ?a23 ?l23 ?c23 ?k23 ?a24 ?l24 ?c24 ?k24 ?a25 ?l25 ?c25 ?k25 ?a26 ?l26 ?c26 ?k26 ?a27 ?l27 ?c27 ?k27 ?a28 ?l28 ?c28 ?k28 ?a29 ?l29 ?c29 ?k29 ?a30 ?l30 ?c30 ?k30 ?a31 ?l31 ?c31 ?k31 ?a32 ?l32 ?c32 ?k32 ?a33 ?l33 ?c33 ?k33 ?a34 ?l34 ?c34 ?k34 ?z_len ?z_range ?z_enumerate ?z_sum ?z_min ?z_max ?z_isinstance ?z_all ?z_zip ?z_sorted ?z_tupleT ?z_intT ?z_listT ?z_boolT ?yl_HOUSE_BOUNDS_0 ?yl_HOUSE_BOUNDS_1 ?yl_HOUSE_BOUNDS ?y_HOUSE_BOUNDS ?y_MOST_HOUSES ?y_MOST_ORDERED  ?hcd ?lc ?hO ?hne GT
  (case a0=>k_is);(case l0=>k_is);(case c0=>k_is);(case k0=>k_is)
  (case a1=>k_is);(case l1=>k_is);(case c1=>k_is);(case k1=>k_is)
  (case a2=>k_is);(case l2=>k_is);(case c2=>k_is);(case k2=>k_is)
  (case a3=>k_is);(case l3=>k_is);(case c3=>k_is);(case k3=>k_is)
  (case a4=>k_is);(case l4=>k_is);(case c4=>k_is);(case k4=>k_is)
  (case a5=>k_is);(case l5=>k_is);(case c5=>k_is);(case k5=>k_is)
  (case a6=>k_is);(case l6=>k_is);(case c6=>k_is);(case k6=>k_is)
  (case a7=>k_is);(case l7=>k_is);(case c7=>k_is);(case k7=>k_is)
  (case a8=>k_is);(case l8=>k_is);(case c8=>k_is);(case k8=>k_is)
  (case a9=>k_is);(case l9=>k_is);(case c9=>k_is);(case k9=>k_is)
  (case a10=>k_is);(case l10=>k_is);(case c10=>k_is);(case k10=>k_is)
  (case a11=>k_is);(case l11=>k_is);(case c11=>k_is);(case k11=>k_is)
  (case a12=>k_is);(case l12=>k_is);(case c12=>k_is);(case k12=>k_is)
  (case a13=>k_is);(case l13=>k_is);(case c13=>k_is);(case k13=>k_is)
  (case a14=>k_is);(case l14=>k_is);(case c14=>k_is);(case k14=>k_is)
  (case a15=>k_is);(case l15=>k_is);(case c15=>k_is);(case k15=>k_is)
  (case a16=>k_is);(case l16=>k_is);(case c16=>k_is);(case k16=>k_is)
  (case a17=>k_is);(case l17=>k_is);(case c17=>k_is);(case k17=>k_is)
  (case a18=>k_is);(case l18=>k_is);(case c18=>k_is);(case k18=>k_is)
  (case a19=>k_is);(case l19=>k_is);(case c19=>k_is);(case k19=>k_is)
  (case a20=>k_is);(case l20=>k_is);(case c20=>k_is);(case k20=>k_is)
  (case a21=>k_is);(case l21=>k_is);(case c21=>k_is);(case k21=>k_is)
  (case a22=>k_is);(case l22=>k_is);(case c22=>k_is);(case k22=>k_is)
  (case a23=>k_is);(case l23=>k_is);(case c23=>k_is);(case k23=>k_is)
  (case a24=>k_is);(case l24=>k_is);(case c24=>k_is);(case k24=>k_is)
  (case a25=>k_is);(case l25=>k_is);(case c25=>k_is);(case k25=>k_is)
  (case a26=>k_is);(case l26=>k_is);(case c26=>k_is);(case k26=>k_is)
  (case a27=>k_is);(case l27=>k_is);(case c27=>k_is);(case k27=>k_is)
  (case a28=>k_is);(case l28=>k_is);(case c28=>k_is);(case k28=>k_is)
  (case a29=>k_is);(case l29=>k_is);(case c29=>k_is);(case k29=>k_is)
  (case a30=>k_is);(case l30=>k_is);(case c30=>k_is);(case k30=>k_is)
  (case a31=>k_is);(case l31=>k_is);(case c31=>k_is);(case k31=>k_is)
  (case a32=>k_is);(case l32=>k_is);(case c32=>k_is);(case k32=>k_is)
  (case a33=>k_is);(case l33=>k_is);(case c33=>k_is);(case k33=>k_is)
  (case a34=>k_is);(case l34=>k_is);(case c34=>k_is);(case k34=>k_is)
  (case z_len=>k_is)
  (case z_range=>k_is)
  (case z_enumerate=>k_is)
  (case z_sum=>k_is)
  (case z_min=>k_is)
  (case z_max=>k_is)
  (case z_isinstance=>k_is)
  (case z_all=>k_is)
  (case z_zip=>k_is)
  (case z_sorted=>k_is)
  (case z_tupleT=>k_is)
  (case z_intT=>k_is)
  (case z_listT=>k_is)
  (case z_boolT=>k_is)
  (case y_HOUSE_BOUNDS=>k_is)
  (case yl_HOUSE_BOUNDS=>k_is)
  (case yl_HOUSE_BOUNDS_1=>k_is)
  (case yl_HOUSE_BOUNDS_0=>k_is)
  (case y_MOST_HOUSES=>k_is)
  (case y_MOST_ORDERED=>k_is)
  (case hcd=>rfl)
  (case lc=>k_is)
  (case hO=>exact⟨_,_,_,_,_,_,_,_,rfl,rfl,rfl,rfl,rfl,rfl,rfl,rfl⟩)
  (case hne=>decide)
