import PyProof.Rows.All
import PyProof.StrReplace2
import PyProof.Rows.TupDisplay
import PyProof.SliceList
import Wide.All
import OpenK.AllK
import Wide.FinOn
import Lean
import PyProof.EqAt
import PyProof.EqKinds
import PyProof.TupleCall
import PyProof.ListMulRoad
import PyProof.Lay0
import PyProof.Rows.EqDataRows
import PyProof.ReprRoads
import PyProof.Rows.MinMaxN
import PyProof.ReprLen
import PyProof.FitsInt
import PyProof.MinMaxWalk
import KE.KRevSl
import KE.KRevIter
import PyProof.ListRange
import PyProof.Sched
import PyProof.Rows.SortShellK
import PyProof.Rows.SortRunK
import PyProof.Rows.SortRuns
import PyProof.TupleOfSeq
import PyProof.RulesAs
import OpenK.KDescr
import OpenK.KOwn
import KE.KIsNot
import KE.KIsAll
import PyProof.Rows.SetFrom
import PyProof.WalksMore
import PyProof.CollectWalk
import KE.KLam
import KE.KMinKey
import KE.KSortKey
import KE.KDictList
import KE.KDictOf
import PyProof.Rows.Range3
import PyProof.FactsAll.range
import PyProof.Rows.StrLen
import PyProof.Rows.StrCase
import PyProof.StrBlock2
import PyProof.Rows.StrRules
import PyProof.Rows.RegReprOcc
import PyProof.AttrMissSeq
import PyProof.DictWalks
import KE.KEqDict
import PyProof.ExcInit
import PyProof.ExcClass3
import PyProof.InstStoreFacts
import PySem.Challenge.RW_knockpurse_k38_whole_purses
set_option Elab.async false
set_option linter.all false
set_option maxRecDepth 100000
namespace L2
open PySem PySem.Spec PyProof.Rows
abbrev Key:=Sum Int Str
def zco:Key->Value->Bool
 |.inl k,v=>Value.isInt k v
 |.inr x,v=>Value.isStrOf x v
def zt3(w:World):Key->Int
 |.inl k=>hashInt k
 |.inr x=>hashStr w x
theorem yo:∀{k:Key}{v:Value},zco k v=true->(∃i t,k=Sum.inl i/\v=Value.int i t)\/(∃x t,k=Sum.inr x/\v=Value.str x t)
 |.inl i,v,h=>by
  obtain⟨t,e⟩:=Value.isInt_shape (k:=i) (v:=v) h;exact .inl ⟨i,t,rfl,e⟩
 |.inr x,v,h=>by
  obtain⟨t,e⟩:=Value.isStrOf_shape (x:=x) (v:=v) h;exact .inr ⟨x,t,rfl,e⟩
theorem zh6(i:Int)(t:Tok):zco (.inl i) (.int i t)=true:=by simp[zco,Value.isInt]
theorem zh7(x:Str)(t:Tok):zco (.inr x) (.str x t)=true:=by simp[zco,Value.isStrOf]
theorem zph(a b:Int):decide ((Sum.inl a:Key)=Sum.inl b)=(a == b):=by
 by_cases e:a=b
 ·subst e;simp
 ·have h:¬ (Sum.inl a:Key)=Sum.inl b:=λq=>e (Sum.inl.inj q);rw[decide_eq_false h];exact(beq_eq_false_iff_ne.mpr e).symm
theorem zpi(a b:Str):decide ((Sum.inr a:Key)=Sum.inr b)=decide (a=b):=by
 by_cases e:a=b
 ·subst e;simp
 ·have h:¬ (Sum.inr a:Key)=Sum.inr b:=λq=>e (Sum.inr.inj q);rw[decide_eq_false h,decide_eq_false e]
theorem zpj(a:Int)(b:Str):decide ((Sum.inl a:Key)=Sum.inr b)=false:=decide_eq_false (λq=>nomatch q)
theorem zpk(a:Str)(b:Int):decide ((Sum.inr a:Key)=Sum.inl b)=false:=decide_eq_false (λq=>nomatch q)
def ym(prog:Program)(w:World):PySem.KeyKind prog w Key where
 is:=zco
 hash:=zt3 w
 inj:=λv a b ha hb=>by
  rcases yo ha with⟨i,t,rfl,rfl⟩ |⟨x,t,rfl,rfl⟩
  ·rcases yo hb with⟨j,u,rfl,e⟩ |⟨y,u,rfl,e⟩
   ·injection e with e1 _;rw[e1]
   ·exact nomatch e
  ·rcases yo hb with⟨j,u,rfl,e⟩ |⟨y,u,rfl,e⟩
   ·exact nomatch e
   ·injection e with e1 _;rw[e1]
 byValue:=λk v h=>by
  rcases yo h with⟨i,t,rfl,rfl⟩ |⟨x,t,rfl,rfl⟩ <;> rfl
 pyHash:=λhv h=>by
  rcases yo hv with⟨i,t,rfl,rfl⟩ |⟨x,t,rfl,rfl⟩
  ·exact wpAny_pyHash_int h
  ·exact wpAny_pyHash_str h
 eqBool:=λhu hv h=>by
  rcases yo hu with⟨i,t,rfl,rfl⟩ |⟨x,t,rfl,rfl⟩
  ·rcases yo hv with⟨j,u,rfl,rfl⟩ |⟨y,u,rfl,rfl⟩
   ·rw[zph]at h;exact wpAny_eqBool_int h
   ·rw[zpj]at h;exact SeqAt.EqAt.int_str i t y u _ _ _ _ h
  ·rcases yo hv with⟨j,u,rfl,rfl⟩ |⟨y,u,rfl,rfl⟩
   ·rw[zpk]at h;exact SeqAt.EqAt.str_int x t j u _ _ _ _ h
   ·rw[zpi]at h;exact wpAny_eqBool_str h
 «strs»:=λk x t v h=>by
  rcases yo h with⟨i,u,rfl,e⟩ |⟨y,u,rfl,e⟩
  ·exact nomatch e
  ·injection e with e1 _
   subst e1
   cases v <;> rfl
theorem zee(prog:Program)(w:World)(i:Int)(t:Tok):(ym prog w).is (.inl i) (.int i t)=true:=zh6 i t
theorem zef(prog:Program)(w:World)(x:Str)(t:Tok):(ym prog w).is (.inr x) (.str x t)=true:=zh7 x t
inductive V where
 |non|bl (b:Bool)|int (i:Int)|str (x:Str)|byt (b:Array UInt8)|flt (b:UInt64)|ref (a:Addr)|ty (n:String)
 deriving DecidableEq
def RelV:V->Value->Prop
 |.non,u=>u=Value.none
 |.bl b,u=>u=Value.bool b
 |.int i,u=>∃t,u=Value.int i t
 |.str x,u=>∃t,u=Value.str x t
 |.byt b,u=>∃t,u=Value.bytes b t
 |.flt b,u=>∃t,u=Value.float b t
 |.ref a,u=>u=Value.ref a
 |.ty n,u=>u=Value.type n
abbrev Vals:List V->List Value->Prop:=Paired RelV
theorem Vals.length{xs:List V}{us:List Value}(r:Vals xs us):xs.length=us.length:=Paired.length r
theorem Vals.get:∀{xs:List V}{us:List Value}{i:Nat}{x:V},Vals xs us->xs[i]?=some x->∃u,us[i]?=some u/\RelV x u
 |_,_,_,_,.nil,e=>by simp at e
 |_,_,0,_,.cons r _,e=>by simp at e;subst e;exact⟨_,rfl,r⟩
 |_,_,i+1,x,.cons _ t,e=>by
  obtain⟨u,h1,h2⟩:=Vals.get (i:=i) (x:=x) t (by simpa using e);exact⟨u,by simpa using h1,h2⟩
theorem Vals.set{x:V}{u:Value}(r:RelV x u):∀{xs:List V}{us:List Value} (i:Nat),Vals xs us->Vals (xs.set i x) (us.set i u)
 |_,_,_,.nil=>.nil
 |_,_,0,.cons _ t=>.cons r t
 |_,_,i+1,.cons q t=>.cons q (Vals.set r i t)
theorem Vals.append:∀{xs ys:List V}{us ws:List Value},Vals xs us->Vals ys ws->Vals (xs++ys) (us++ws)
 |_,_,_,_,.nil,s=>s
 |_,_,_,_,.cons r t,s=>.cons r (Vals.append t s)
theorem Vals.take:∀{xs:List V}{us:List Value} (n:Nat),Vals xs us->Vals (xs.take n) (us.take n)
 |_,_,0,_=>.nil
 |_,_,_+1,.nil=>.nil
 |_,_,n+1,.cons r t=>.cons r (Vals.take n t)
theorem Vals.drop:∀{xs:List V}{us:List Value} (n:Nat),Vals xs us->Vals (xs.drop n) (us.drop n)
 |_,_,0,r=>r
 |_,_,_+1,.nil=>.nil
 |_,_,n+1,.cons _ t=>Vals.drop n t
def RelO:Option V->Option Value->Prop
 |some v,some u=>RelV v u
 |none,none=>True
 |_,_=>False
def KV{κ:Type}:List (κ×V)->List (κ×Value)->Prop:=Paired λ(p:κ×V) (q:κ×Value)=>p.1=q.1/\RelV p.2 q.2
def kV:Key->V
 |.inl i=>.int i
 |.inr x=>.str x
inductive HO where
  |lst (xs:List V)
  |tup (xs:List V)
  |dK (kvs:List (Key×V))|dT (kvs:List (List Key×V))
  |set (S:Int->Bool) (n:Nat)
  |ins (C dx:Addr) (fs:List (Str×V))
  |own (x:Addr)
  |xd (fs:List (Str×V))
  |met (f x:Addr)
  |rng (lo hi:Int)
  |frz (o:Obj) (u:HO)
  |tbl (ps:Array Value)
  |ext (φ:Heap->Prop)
abbrev Hp:=Addr->Option HO
def upd(H:Hp)(a:Addr)(o:HO):Hp:=λb=>if b=a then some o else H b
theorem zl{H:Hp}{a:Addr}{o:HO}:upd H a o a=some o:=by unfold upd;rw[if_pos rfl]
theorem zj{H:Hp}{a b:Addr}{o:HO}(h:b≠a):upd H a o b=H b:=by unfold upd;rw[if_neg h]
theorem zos{H:Hp}{a b:Addr}{o u:HO}(h:H a=some o)(h':H b=some u)(d:o≠u):a≠b:=by
 intro e;subst e;rw[h]at h';exact d (Option.some.inj h')
theorem z0{H:Hp}{a b:Addr}{o:HO}(h:H a=some o)(h':H b=none):a≠b:=by
 intro e;subst e;rw[h]at h';cases h'
def TupD(h:Heap)(a:Addr)(items:Array Value):Prop:=∃o,h.get? a=some o/\o.cls=.type "tuple" /\(∃n,o.data=.seq items n)/\o.dict=none
theorem TupD.isTup{h:Heap}{a:Addr}{items:Array Value}(x:TupD h a items):IsTup h a items:=let ⟨o,e,c,d,_⟩:=x;⟨o,e,c,d⟩
theorem TupD.lt{h:Heap}{a:Addr}{items:Array Value}(x:TupD h a items):a<h.objs.size:=x.isTup.lt
theorem TupD.new(h:Heap)(items:Array Value):TupD (h.push { cls:=.type "tuple",data:=.seq items }) h.objs.size items:=⟨_,Heap.get?_push_size _ rfl,rfl,⟨_,rfl⟩,rfl⟩
def zsd(oc:Obj)(q:Str):Prop:=∃vs t,oc.data=.fields vs/\vs[1]?=some (.str q t)
def zse(H:Hp)(h:Heap)(a:Addr)(lab:Array Value):Prop:=∃(ps:Array Value) (q:Str) (t:Tok),lab = #[.str q t]/\h.get? a=some { cls:=.none,data:=.fields ps }/\TriplesOk ps.toList /\
 ∀pos cv,codeAmong pos ps.toList=some cv->∃c' oc u,cv=.ref c'/\H c'=some (.frz oc u)/\zsd oc q
section
variable (P:Program)(w:World)
def ObjOk(H:Hp)(h:Heap)(a:Addr):HO->Prop
 |.lst xs=>xs.length<=sizeLine/\∃(its:List Value) (n:Nat),Vals xs its/\h.get? a=some { cls:=.type "list",data:=.seq its.toArray n }
 |.tup xs=>xs.length<=sizeLine/\∃its:List Value,Vals xs its/\TupD h a its.toArray
 |.dK kvs=>kvs.length<=sizeLine/\(a == sysModules)=false/\∃vs,KV kvs vs/\h.DictOf (ym P w) a vs
 |.dT kvs=>kvs.length<=sizeLine/\(a == sysModules)=false/\∃xs:List (List Key×Addr×Value),
   Paired (λ(p:List Key×V) (q:List Key×Addr×Value)=>p.1=q.1/\H q.2.1=some (.tup (p.1.map kV))/\RelV p.2 q.2.2) kvs xs /\
   ∃o es ep,h.get? a=some o/\o.ExactDict/\o.data=.dict es ep/\es.toList=xs.map (entryOfKey (tupleKind (ym P w)))/\(xs.map (·.1)).Nodup
 |.set S n=>h.SetOf (intKind P w) a S n
 |.ins C dx fs=>H dx=some (.own a)/\fs.length<=1000/\dx≠a/\h.get? a=some (PySem.W.instObj C dx) /\
   ∃mA,h.Ns1 dx mA/\(∀f,RelO (fs.lookup f) (mA f))/\PySem.Within mA (fs.map (·.1))
 |.own _=>∃o,h.get? a=some o
 |.xd fs=>∃mA,h.Ns1 a mA/\∀f,RelO (fs.lookup f) (mA f)
 |.rng lo hi=>∃t u v,h.get? a=some { cls:=.type "range",data:=.fields #[.int lo t,.int hi u,.int 1 v] }
 |.frz o u=>h.get? a=some o/\ObjOk H h a u
 |.tbl ps=>zse H h a ps
 |.met f x=>h.get? a=some (PySem.W.methodObj (.ref f) (.ref x))
 |.ext φ=>φ h/\(∃o,h.get? a=some o)/\∀h1 h2:Heap,φ h1->(∀o,h1.get? a=some o->h2.get? a=some o)->φ h2
def HOk(H:Hp)(h:Heap):Prop:=∀a o,H a=some o->ObjOk P w H h a o
end
section
variable {P:Program}{w:World}{H H':Hp}{h h':Heap}{a:Addr}{o:HO}
theorem ObjOk.lt(x:ObjOk P w H h a o):a<h.objs.size:=by
 cases o with
 |lst xs=>obtain⟨_,_,_,_,e⟩:=x;exact Heap.lt_size e
 |tup xs=>obtain⟨_,_,_,p⟩:=x;exact p.lt
 |dK kvs=>obtain⟨_,_,_,_,o,_,_,e,_⟩:=x;exact Heap.lt_size e
 |dT kvs=>obtain⟨_,_,_,_,o,_,_,e,_⟩:=x;exact Heap.lt_size e
 |set S n=>obtain⟨o,_,_,_,e,_⟩:=x;exact Heap.lt_size e
 |ins C dx fs=>obtain⟨_,_,_,e,_⟩:=x;exact Heap.lt_size e
 |own y=>obtain⟨_,e⟩:=x;exact Heap.lt_size e
 |xd fs=>obtain⟨_,⟨_,_,_,e,_⟩,_⟩:=x;exact Heap.lt_size e
 |rng lo hi=>obtain⟨_,_,_,e⟩:=x;exact Heap.lt_size e
 |frz ob u=>obtain⟨e,_⟩:=x;exact Heap.lt_size e
 |tbl ps=>obtain⟨_,_,_,_,e,_⟩:=x;exact Heap.lt_size e
 |met f y=>exact Heap.lt_size (show h.get? a=some _ from x)
 |ext φ=>obtain⟨_,⟨_,e⟩,_⟩:=x;exact Heap.lt_size e
theorem Paired.mapP{α β:Type}{F G:α->β->Prop}:∀{l₁:List α}{l₂:List β},Paired F l₁ l₂->(∀a b,F a b->G a b)->Paired G l₁ l₂
 |_,_,.nil,_=>.nil
 |_,_,.cons r t,f=>.cons (f _ _ r) (Paired.mapP t f)
theorem ObjOk.stay(x:ObjOk P w H h a o)(k:∀b u,(b=a\/H b=some (.own a))->h.get? b=some u->h'.get? b=some u)
  (ho:∀b,H b=some (.own a)->H' b=some (.own a)) (ht:∀b xs,H b=some (.tup xs)->H' b=some (.tup xs)) (hf:∀b o u,H b=some (.frz o u)->H' b=some (.frz o u):=by exact λ_ _ _ q=>q):ObjOk P w H' h' a o:=by
 induction o with
 |lst xs=>obtain⟨z,its,n,r,e⟩:=x;exact⟨z,its,n,r,k _ _ (.inl rfl) e⟩
 |tup xs=>obtain⟨z,its,r,ob,e,c⟩:=x;exact⟨z,its,r,ob,k _ _ (.inl rfl) e,c⟩
 |dK kvs=>obtain⟨z,y,vs,r,ob,es,ep,e,c⟩:=x;exact⟨z,y,vs,r,ob,es,ep,k _ _ (.inl rfl) e,c⟩
 |dT kvs=>
  obtain⟨z,y,xs,r,ob,es,ep,e,c⟩:=x;exact⟨z,y,xs,Paired.mapP r λp q z=>⟨z.1,ht _ _ z.2.1,z.2.2⟩,ob,es,ep,k _ _ (.inl rfl) e,c⟩
 |set S n=>obtain⟨ob,es,ep,t,e,c⟩:=x;exact⟨ob,es,ep,t,k _ _ (.inl rfl) e,c⟩
 |ins C dx fs=>
  obtain⟨d,z,ne,e,mA,⟨od,es,ep,e2,c⟩,r⟩:=x;exact⟨ho _ d,z,ne,k _ _ (.inl rfl) e,mA,⟨od,es,ep,k _ _ (.inr d) e2,c⟩,r⟩
 |own y=>obtain⟨ob,e⟩:=x;exact⟨ob,k _ _ (.inl rfl) e⟩
 |xd fs=>obtain⟨mA,⟨od,es,ep,e,c⟩,r⟩:=x;exact⟨mA,⟨od,es,ep,k _ _ (.inl rfl) e,c⟩,r⟩
 |rng lo hi=>obtain⟨t,u,v,e⟩:=x;exact⟨t,u,v,k _ _ (.inl rfl) e⟩
 |frz ob u ih=>obtain⟨e,q⟩:=x;exact⟨k _ _ (.inl rfl) e,ih q⟩
 |tbl ps=>
  obtain⟨rs,q,t,z,e,tr,r⟩:=x;exact⟨rs,q,t,z,k a _ (.inl rfl) e,tr,λpos cv y=>let ⟨c',oc,u,r1,r2,r3⟩:=r pos cv y;⟨c',oc,u,r1,hf _ _ _ r2,r3⟩⟩
 |met f y=>
  have e:h.get? a=some (PySem.W.methodObj (.ref f) (.ref y)):=x;show h'.get? a=some (PySem.W.methodObj (.ref f) (.ref y));exact k a _ (.inl rfl) e
 |ext φ=>obtain⟨p,⟨o,e⟩,st⟩:=x;exact⟨st _ _ p λo q=>k _ _ (.inl rfl) q,⟨o,k _ _ (.inl rfl) e⟩,st⟩
theorem HOk.lt(x:HOk P w H h)(e:H a=some o):a<h.objs.size:=(x a o e).lt
theorem HOk.fresh(x:HOk P w H h)(e:h.objs.size<=a):H a=none:=by
 cases q:H a with
 |none=>rfl
 |some u=>exact absurd (Nat.lt_of_lt_of_le (x.lt q) e) (Nat.lt_irrefl _)
theorem HOk.kept(x:HOk P w H h)(k:∀b u,h.get? b=some u->h'.get? b=some u):HOk P w H h':=λa o e=>
 (x a o e).stay (λb u _ q=>k b u q) (λ_ q=>q) λ_ _ q=>q
theorem HOk.laid(x:HOk P w H h)(k:∀b u,h.get? b=some u->h'.get? b=some u)(hp:h.objs.size<=a)(new:ObjOk P w (upd H a o) h' a o):HOk P w (upd H a o) h':=λb u e=>by
 have hn:=x.fresh hp
 by_cases hb:b=a
 ·subst hb;rw[zl]at e;cases e;exact new
 ·rw[zj hb]at e;exact(x b u e).stay (λc v _ q=>k c v q) (λc q=>by rw[zj (z0 q hn)];exact q) (λc xs q=>by rw[zj (z0 q hn)];exact q) λc _ _ q=>by rw[zj (z0 q hn)];exact q
end
def Rd(H:Hp)(a:Addr)(u:HO):Prop:=H a=some u\/∃o,H a=some (.frz o u)
theorem Rd.of{H:Hp}{a:Addr}{u:HO}(h:H a=some u):Rd H a u:=.inl h
theorem Rd.ok{P:Program}{w:World}{H:Hp}{h:Heap}{a:Addr}{u:HO}(r:Rd H a u)(x:HOk P w H h):ObjOk P w H h a u:=by
 rcases r with r |⟨o,r⟩
 ·exact x a u r
 ·obtain⟨_,q⟩:=x a _ r;exact q
def Mut:Option HO->Prop
 |some (.lst _)=>True
 |some (.dK _)=>True
 |some (.dT _)=>True
 |some (.set _ _)=>True
 |some (.ins _ _ _)=>True
 |some (.ext _)=>True
 |_=>False
section
variable {P:Program}{w:World}{H:Hp}{h h':Heap}{x e:Addr}{o':HO}
theorem HOk.write(ok:HOk P w H h)(mu:Mut (H x))(he:e=x\/H e=some (.own x))(k:∀b u,b≠e->h.get? b=some u->h'.get? b=some u)(heo:∃u,h'.get? e=some u)
  (new:ObjOk P w (upd H x o') h' x o'):HOk P w (upd H x o') h':=λb u q=>by
 have nown:∀c y,H c=some (.own y)->c≠x:=λc y r z=>by subst z;rw[r]at mu;exact mu
 have ntup:∀c xs,H c=some (.tup xs)->c≠x:=λc xs r z=>by subst z;rw[r]at mu;exact mu
 have nfrz:∀c o u,H c=some (.frz o u)->c≠x:=λc o u r z=>by subst z;rw[r]at mu;exact mu
 by_cases hb:b=x
 ·subst hb;rw[zl]at q;cases q;exact new
 ·rw[zj hb]at q
  by_cases hbe:b=e
  ·have q':H b=some (.own x):=by
    rcases he with z|z
    ·exact absurd (hbe.trans z) hb
    ·rw[hbe];exact z
   rw[q]at q';cases q';obtain⟨v,hv⟩:=heo;exact⟨v,by rw[hbe];exact hv⟩
  ·refine(ok b u q).stay (λc v hc r=>k c v ?_ r) (λc r=>by rw[zj (nown c b r)];exact r) (λc xs r=>by rw[zj (ntup c xs r)];exact r) (λc o u r=>by rw[zj (nfrz c o u r)];exact r);rcases hc with rfl|hc
   ·exact hbe
   ·rintro rfl;rcases he with z|z
    ·exact nown c b hc z
    ·rw[hc]at z;cases z;exact hb rfl
end
structure Un(fs ex:List Addr)(H H':Hp)(h h':Heap):Prop where
 keep:∀b o,h.get? b=some o->H b=none->b∉fs->b∉ex->h'.get? b=some o
 slot:∀b o,h.get? b=some o->H b=none->b∈fs->b∉ex->∃sl,h'.get? b=some { o with slots:=sl }
 free:∀b o,h.get? b=some o->H b=none->b∉ex->H' b=none
 there:∀b o,h.get? b=some o->b∉ex->∃o',h'.get? b=some o'
 tups:∀b xs,H b=some (.tup xs)->H' b=some (.tup xs)
 frzs:∀b o u,H b=some (.frz o u)->H' b=some (.frz o u)
 tbls:∀b ps,H b=some (.tbl ps)->∃more,H' b=some (.tbl (ps++more))
section
variable {fs fs' ex ex':List Addr}{H H1 H2:Hp}{h h1 h2 h':Heap}{a x e:Addr}{o:HO}
theorem Un.any(u:Un fs ex H H1 h h1){b:Addr}{ob:Obj}(q:h.get? b=some ob)(n:H b=none)(hx:b∉ex):∃sl,h1.get? b=some { ob with slots:=sl }:=by
 by_cases hb:b∈fs
 ·exact u.slot b ob q n hb hx
 ·exact⟨ob.slots,u.keep b ob q n hb hx⟩
theorem Un.trans(a:Un fs ex H H1 h h1)(b:Un fs ex H1 H2 h1 h2):Un fs ex H H2 h h2 where
 keep:=λc ob q n hc hx=>b.keep c ob (a.keep c ob q n hc hx) (a.free c ob q n hx) hc hx
 slot:=λc ob q n hc hx=>by
  obtain⟨sl,e1⟩:=a.slot c ob q n hc hx;obtain⟨sl',e2⟩:=b.slot c _ e1 (a.free c ob q n hx) hc hx;exact⟨sl',e2⟩
 free:=λc ob q n hx=>by
  obtain⟨o',e1⟩:=a.there c ob q hx;exact b.free c o' e1 (a.free c ob q n hx) hx
 there:=λc ob q hx=>by
  obtain⟨o',e1⟩:=a.there c ob q hx;exact b.there c o' e1 hx
 tups:=λc xs q=>b.tups c xs (a.tups c xs q)
 frzs:=λc ob xs q=>b.frzs c ob xs (a.frzs c ob xs q)
 tbls:=λc ps q=>by
  obtain⟨m1,e1⟩:=a.tbls c ps q;obtain⟨m2,e2⟩:=b.tbls c _ e1;exact⟨m1++m2,by rw[e2,Array.append_assoc]⟩
theorem Un.kept(k:∀b u,h.get? b=some u->h'.get? b=some u):Un fs ex H H h h' :=
 ⟨λb ob q _ _ _=>k b ob q,λb ob q _ _ _=>⟨ob.slots,k b ob q⟩,λ_ _ _ n _=>n,λb ob q _=>⟨ob,k b ob q⟩,λ_ _ q=>q,λ_ _ _ q=>q,λ_ ps q=>⟨#[],by rw[q];simp⟩⟩
theorem Un.refl:Un fs ex H H h h:=Un.kept λ_ _ q=>q
theorem Un.laid(k:∀b u,h.get? b=some u->h'.get? b=some u)(hp:h.objs.size<=a)(hn:H a=none):Un fs ex H (upd H a o) h h' where
 keep:=λb u q _ _ _=>k b u q
 slot:=λb u q _ _ _=>⟨u.slots,k b u q⟩
 free:=λb u q n _=>by rw[zj (Nat.ne_of_lt (Nat.lt_of_lt_of_le (Heap.lt_size q) hp))];exact n
 there:=λb u q _=>⟨u,k b u q⟩
 tups:=λb xs q=>by rw[zj (z0 q hn)];exact q
 frzs:=λb u xs q=>by rw[zj (z0 q hn)];exact q
 tbls:=λb ps q=>⟨#[],by rw[zj (z0 q hn),q];simp⟩
theorem Un.write(mu:Mut (H x))(he:e=x\/H e=some (.own x))(k:∀b u,b≠e->h.get? b=some u->h'.get? b=some u)(heo:∃u,h'.get? e=some u):Un fs ex H (upd H x o) h h':=by
 have hx:∀b,H b=none->b≠x:=λb n z=>by subst z;rw[n]at mu;exact mu
 have hb:∀b,H b=none->b≠e:=λb n z=>by
  subst z;rcases he with r|r
  ·exact hx b n r
  ·rw[n]at r;cases r
 have hm:∀b u,H b=some u->¬ Mut (some u)->b≠x:=λb u q nm z=>by subst z;rw[q]at mu;exact nm mu
 refine⟨λb u q n _ _=>k b u (hb b n) q,λb u q n _ _=>⟨u.slots,k b u (hb b n) q⟩,λb u q n _=>by rw[zj (hx b n)];exact n,λb u q _=>?_,
  λb xs q=>by rw[zj (hm b _ q λz=>z)];exact q,λb u xs q=>by rw[zj (hm b _ q λz=>z)];exact q,λb ps q=>⟨#[],by rw[zj (hm b _ q λz=>z),q];simp⟩⟩
 by_cases hbe:b=e
 ·subst hbe;exact heo
 ·exact⟨u,k b u hbe q⟩
theorem Un.mono(u:Un fs ex H H1 h h1)(hs:∀b∈fs,b∈fs')(hx:∀b∈ex,b∈ex'):Un fs' ex' H H1 h h1 :=
 ⟨λb ob q n hb he=>u.keep b ob q n (λz=>hb (hs b z)) λz=>he (hx b z),λ_ _ q n _ he=>u.any q n λz=>he (hx _ z),λb ob q n he=>u.free b ob q n λz=>he (hx b z),λb ob q he=>u.there b ob q λz=>he (hx b z),u.tups,u.frzs,u.tbls⟩
end
def trk(h:Heap)(H:Hp):List Addr:=(List.range h.objs.size).filter λa=>(H a).isSome
def zc9(h:Heap)(H:Hp):Heap:=PySem.W.hideAll h (trk h H)
theorem zh8(h:Heap)(H:Hp):(zc9 h H).objs.size=h.objs.size:=PySem.W.hideAll_size _ _
theorem zjf{h:Heap}{H:Hp}{b:Addr}{o:Obj}(e:h.get? b=some o)(n:H b=none):(zc9 h H).get? b=some o :=
 PySem.W.hideAll_get _ e λhm=>by
  have q:(H b).isSome=true:=(List.mem_filter.mp hm).2;rw[n]at q;simp at q
theorem zmi{h:Heap}{H:Hp}{b:Addr}{o:Obj}(e:(zc9 h H).get? b=some o):h.get? b=some o/\H b=none:=by
 have e':h.get? b=some o:=PySem.W.of_hideAll (trk h H) e;refine⟨e',?_⟩
 cases q:H b with
 |none=>rfl
 |some x=>
  have hm:b∈trk h H:=List.mem_filter.mpr ⟨List.mem_range.mpr (Heap.lt_size e'),by simp[q]⟩;have z:(zc9 h H).get? b=none:=PySem.W.hideAll_none (trk h H) hm;rw[z]at e;cases e
def zmj(g h:Heap)(L:Addr):List (Addr×Obj):=(List.range h.objs.size).filterMap λa=>if a=L\/(g.get? a).isSome=true then none else (h.get? a).map λo=>(a,o)
def rest(g h:Heap)(L d:Addr):List (Addr×Obj):=(zmj g h L).filter λp=>decide (p.1≠d)
structure Mod(K:PySem.W.Frag)(mg:Str->Option Value)(base:Heap):Prop where
 kin:K.In base
 glob:base.Ns mainGlobals mg
 blt:∃mb,base.Ns builtinsNs mb/\∀x:Str,x ≠ "__name__" -> mb x=bootBuiltins x
 nolimit:base.NoLimit
structure Cx where
 prog:Program
 w:World
 K:PySem.W.Frag
 mg:Str->Option Value
 base:Heap
 A:Around
 N:List Str
 s₀:Shared
 H₀:Hp
 env:Env
 outer:List Env
 stack:List Env
 ex:List Addr
 fn:Str->Bool
 calm:Bool
 pn:List (Addr×Obj)
 xe:Value->Shared->Prop
def frs(l:List Env):List Addr:=l.filterMap (·.frame)
abbrev Cx.fs(X:Cx):List Addr:=frs X.outer
def Vis(sc:Scope)(x:Str):Prop:=sc.names.lookup x=some .local\/sc.names.lookup x=some .cell\/sc.names.lookup x=some .free
def Loc(sc:Scope)(x:Str):Prop:=sc.names.lookup x=some .local\/sc.names.lookup x=some .cell
def zt4(env:Env)(h:Heap)(m:Str->Option Value)(x:Str)(u:Value):Prop :=
 (env.kindOf x=some .local/\m x=some u)\/((env.kindOf x=some .cell\/env.kindOf x=some .free)/\∃c,env.cells.lookup x=some c/\h.IsCell c (some u))
structure Cx.Ok(X:Cx):Prop where
 mod:Mod X.K X.mg X.base
 kind:X.env.scope.kind=.function
 glob:X.env.globals=mainGlobals
 blt:X.env.builtins=builtinsNs
 above:X.s₀.heap.objs.size<=X.env.locals
 inj:∀x y c,X.env.cells.lookup x=some c->X.env.cells.lookup y=some c->x=y
 has:∀x,(X.env.kindOf x=some .cell\/X.env.kindOf x=some .free)->∃c,X.env.cells.lookup x=some c
 cab:∀x c,X.fn x=true->X.env.cells.lookup x=some c->X.s₀.heap.objs.size<=c
 hd:X.calm=true->X.A.handled=none
 frames:X.A.frames=some X.stack
 stk:X.stack=X.outer\/(X.stack=X.env::X.outer/\X.env.frame=some X.env.locals)
 exf:∀b∈X.ex,b≠X.env.locals/\∀x c,X.env.cells.lookup x=some c->c≠b
 bs:∀b o,X.base.get? b=some o->X.s₀.heap.get? b=some o/\X.H₀ b=none
 bsz:X.base.objs.size<=X.s₀.heap.objs.size
 noex:∀b o,X.base.get? b=some o->b∉X.ex
 exfs:∀b∈X.ex,b∉X.fs
 funs:X.s₀.heap.FunFrames X.base X.outer
 frf:∀b∈X.fs,X.H₀ b=none
structure Inv(X:Cx)(pins:List (Addr×Obj))(σ:List (Option V))(H:Hp)(s:Shared):Prop where
 ok:X.Ok
 os:s.os=X.s₀.os
 bare:AllBare s.gens
 base:Un X.fs X.ex X.H₀ H X.s₀.heap s.heap
 loc:∃m,s.heap.Ns X.env.locals m/\∀(i:Nat) (x:Str) (v:V),X.N[i]?=some x->σ[i]?=some (some v)->Vis X.env.scope x->∃u,RelV v u/\zt4 X.env s.heap m x u
 cell:∀x c,X.env.cells.lookup x=some c->∃v,s.heap.IsCell c v
 free:H X.env.locals=none
 freeC:∀x c,X.env.cells.lookup x=some c->H c=none
 pin:∀p∈X.pn++pins,s.heap.get? p.1=some p.2/\H p.1=none/\p.1≠X.env.locals/\p.1∉X.fs/\∀v,p.2.data ≠ .cell v
 hok:HOk X.prog X.w H s.heap
 len:σ.length=X.N.length
section
variable {X:Cx}{pins:List (Addr×Obj)}{σ:List (Option V)}{H H':Hp}{s:Shared}{h':Heap}
theorem Cx.Ok.nofr(ok:X.Ok){b:Addr}{o:Obj}(e:X.base.get? b=some o):b∉X.fs:=λhb=>by
 have:=(ok.funs.mem hb).1;rw[e]at this;cases this
theorem Inv.bs(I:Inv X pins σ H s):∀b o,X.base.get? b=some o->s.heap.get? b=some o/\H b=none:=λb o e=>
 ⟨I.base.keep b o (I.ok.bs b o e).1 (I.ok.bs b o e).2 (I.ok.nofr e) (I.ok.noex b o e),I.base.free b o (I.ok.bs b o e).1 (I.ok.bs b o e).2 (I.ok.noex b o e)⟩
theorem Inv.bk(I:Inv X pins σ H s):∀b o,X.base.get? b=some o->s.heap.get? b=some o:=λb o e=>(I.bs b o e).1
theorem Inv.mod(I:Inv X pins σ H s):Mod X.K X.mg X.base:=I.ok.mod
theorem Inv.kIn(I:Inv X pins σ H s):X.K.In s.heap:=I.ok.mod.kin.keeps I.bk
theorem Inv.lt(I:Inv X pins σ H s):X.env.locals<s.heap.objs.size:=let ⟨_,hn,_⟩:=I.loc;hn.lt
theorem Inv.sz(I:Inv X pins σ H s):X.s₀.heap.objs.size<=s.heap.objs.size:=Nat.le_trans I.ok.above (Nat.le_of_lt I.lt)
theorem Inv.nofs(I:Inv X pins σ H s){a:Addr}(h:s.heap.objs.size<=a):a∉X.fs:=λhb=>by
 obtain⟨_,o,ho,_⟩:=I.ok.funs.mem hb;exact absurd (Nat.lt_of_lt_of_le (Heap.lt_size ho) (Nat.le_trans I.sz h)) (Nat.lt_irrefl _)
theorem Inv.cne(I:Inv X pins σ H s):∀x c,X.env.cells.lookup x=some c->c≠X.env.locals:=λx c e z=>by
 obtain⟨v,o,ho,hd⟩:=I.cell x c e;obtain⟨m,⟨o',es,ep,ho',hd',_⟩,_⟩:=I.loc;rw[z,ho']at ho;cases ho;rw[hd']at hd;cases hd
theorem Inv.funs(I:Inv X pins σ H s):s.heap.FunFrames X.base X.outer:=by
 have all:∀(l:List Env),(∀b∈frs l,b∈X.fs)->X.s₀.heap.FunFrames X.base l->s.heap.FunFrames X.base l:=by
  intro l
  induction l with
  |nil=>intro _ _;trivial
  |cons env r ih=>
   intro hs hl;obtain⟨hk,⟨L,o,hf,hn,ho,hd⟩,hr⟩:=hl;have hL:L∈X.fs:=hs L (by unfold frs;rw[List.filterMap_cons,hf];exact List.mem_cons_self);obtain⟨sl,e⟩:=I.base.slot L o ho (I.ok.frf L hL) hL λz=>I.ok.exfs L z hL;exact⟨hk,⟨L,_,hf,hn,e,hd⟩,ih (λb hb=>hs b (by unfold frs;rw[List.filterMap_cons,hf];exact List.mem_cons_of_mem _ hb)) hr⟩
 exact all X.outer (λ_ hb=>hb) I.ok.funs
theorem Inv.stack(I:Inv X pins σ H s):s.heap.FunFrames X.base X.stack:=by
 rcases I.ok.stk with e |⟨e,hf⟩
 ·rw[e];exact I.funs
 ·rw[e];obtain⟨m,hn,_⟩:=I.loc;refine .cons (by rw[I.ok.kind];decide) hf hn ?_ I.funs;exact Heap.get?_none_of_le (Nat.le_trans I.ok.bsz I.ok.above)
theorem Inv.stkSub(I:Inv X pins σ H s):∀b∈frs X.stack,b∈X.env.locals::X.fs:=λb hb=>by
 rcases I.ok.stk with e |⟨e,hf⟩
 ·rw[e]at hb;exact List.mem_cons_of_mem _ hb
 ·rw[e]at hb;unfold frs at hb;rw[List.filterMap_cons,hf]at hb;exact hb
theorem Inv.stkFree(I:Inv X pins σ H s):∀b∈frs X.stack,H b=none:=λb hb=>by
 rcases List.mem_cons.mp (I.stkSub b hb) with e|hb
 ·rw[e];exact I.free
 ·obtain⟨_,o,ho,_⟩:=I.ok.funs.mem hb;exact I.base.free b o ho (I.ok.frf b hb) λz=>I.ok.exfs b z hb
theorem Inv.step{g':Array GenState}{t':Nat}{d':Drawn}{ch:List Addr}(I:Inv X pins σ H s)
  (hch:∀b∈ch,(b∈X.ex\/X.s₀.heap.objs.size<=b)/\b≠X.env.locals/\(∀x c,X.env.cells.lookup x=some c->c≠b)/\∀p∈X.pn++pins,p.1≠b)
  (keep:∀b o,b≠X.env.locals->b∉X.fs->b∉ch->s.heap.get? b=some o->H b=none->h'.get? b=some o)
  (slot:∀b o,b≠X.env.locals->b∈X.fs->b∉ch->s.heap.get? b=some o->H b=none->∃sl,h'.get? b=some { o with slots:=sl }) (free:∀b o,b∉ch->s.heap.get? b=some o->H b=none->H' b=none)
  (there:∀b o,b∉ch->s.heap.get? b=some o->∃o',h'.get? b=some o')
  (tups:∀b xs,H b=some (.tup xs)->H' b=some (.tup xs)) (frzs:∀b o u,H b=some (.frz o u)->H' b=some (.frz o u)) (tbls:∀b ps,H b=some (.tbl ps)->∃more,H' b=some (.tbl (ps++more)))
  (ns:∀m,s.heap.Ns X.env.locals m->h'.Ns X.env.locals m) (hok:HOk X.prog X.w H' h') (hg:AllBare g') :
  Inv X pins σ H' { s with heap:=h',gens:=g',drawn:=d',toks:=t' }:=by
 have neL:∀b o,X.s₀.heap.get? b=some o->b≠X.env.locals:=λb o e=>Nat.ne_of_lt (Nat.lt_of_lt_of_le (Heap.lt_size e) I.ok.above);have neC:∀b o,X.s₀.heap.get? b=some o->b∉X.ex->b∉ch:=λb o e hx hb=>by
  rcases (hch b hb).1 with z|z
  ·exact hx z
  ·exact absurd (Nat.lt_of_lt_of_le (Heap.lt_size e) z) (Nat.lt_irrefl _)
 have cellK:∀x c,X.env.cells.lookup x=some c->∀v,s.heap.IsCell c v->h'.IsCell c v:=λx c e v ⟨o,ho,hd⟩=>by
  have nch:c∉ch:=λz=>(hch c z).2.2.1 x c e rfl
  by_cases hc:c∈X.fs
  ·obtain⟨sl,q⟩:=slot c o (I.cne x c e) hc nch ho (I.freeC x c e);exact⟨_,q,hd⟩
  ·exact⟨o,keep c o (I.cne x c e) hc nch ho (I.freeC x c e),hd⟩
 refine⟨I.ok,I.os,hg,⟨λb o e n hb hx=>?_,λb o e n hb hx=>?_,λb o e n hx=>?_,λb o e hx=>?_,λb xs e=>tups b xs (I.base.tups b xs e),λb o xs e=>frzs b o xs (I.base.frzs b o xs e),λb ps e=>?_⟩,?_,λx c e=>?_,?_,λx c e=>?_,λp hp=>?_,hok,I.len⟩
 ·exact keep b o (neL b o e) hb (neC b o e hx) (I.base.keep b o e n hb hx) (I.base.free b o e n hx)
 ·obtain⟨sl,e1⟩:=I.base.slot b o e n hb hx;obtain⟨sl',e2⟩:=slot b _ (neL b o e) hb (neC b o e hx) e1 (I.base.free b o e n hx);exact⟨sl',e2⟩
 ·obtain⟨o',e1⟩:=I.base.there b o e hx;exact free b o' (neC b o e hx) e1 (I.base.free b o e n hx)
 ·obtain⟨o',e1⟩:=I.base.there b o e hx;exact there b o' (neC b o e hx) e1
 ·obtain⟨m1,e1⟩:=I.base.tbls b ps e;obtain⟨m2,e2⟩:=tbls b _ e1;exact⟨m1++m2,by rw[e2,Array.append_assoc]⟩
 ·obtain⟨m,hn,hl⟩:=I.loc;refine⟨m,ns m hn,λi x v e1 e2 e3=>?_⟩;obtain⟨u,r,l⟩:=hl i x v e1 e2 e3;refine⟨u,r,?_⟩;rcases l with l |⟨k,c,e,z⟩
  ·exact .inl l
  ·exact .inr ⟨k,c,e,cellK x c e _ z⟩
 ·obtain⟨v,z⟩:=I.cell x c e;exact⟨v,cellK x c e v z⟩
 ·obtain⟨m,⟨o,_,_,ho,_⟩,_⟩:=I.loc;exact free _ o (λz=>(hch _ z).2.1 rfl) ho I.free
 ·obtain⟨v,o,ho,hd⟩:=I.cell x c e;exact free c o (λz=>(hch c z).2.2.1 x c e rfl) ho (I.freeC x c e)
 ·obtain⟨e,n,ne,nf,d⟩:=I.pin p hp;have nch:p.1∉ch:=λz=>(hch p.1 z).2.2.2 p hp rfl;exact⟨keep p.1 p.2 ne nf nch e n,free p.1 p.2 nch e n,ne,nf,d⟩
theorem Inv.un{t':Nat}(I:Inv X pins σ H s)(u:Un X.fs [] H H' s.heap h')(hok:HOk X.prog X.w H' h'):Inv X pins σ H' { s with heap:=h',toks:=t' }:=by
 obtain⟨m,⟨o,es,ep,ho,r⟩,_⟩:=id I.loc;obtain⟨sl,hL⟩:=u.any ho I.free (by simp);exact I.step (g':=s.gens) (d':=s.drawn) (ch:=[]) (λ_ z=>nomatch z) (λb o _ hb _ e n=>u.keep b o e n hb (by simp)) (λb o _ hb _ e n=>u.slot b o e n hb (by simp)) (λb o _ e n=>u.free b o e n (by simp)) (λb o _ e=>u.there b o e (by simp)) u.tups u.frzs u.tbls (λm' hm=>by
  obtain⟨o',es',ep',ho',r'⟩:=hm;rw[ho]at ho';cases ho';exact⟨_,es',ep',hL,r'⟩) hok I.bare
theorem Inv.call{g':Array GenState}{t':Nat}{d':Drawn}{ch:List Addr}(I:Inv X pins σ H s)(u:Un (frs X.stack) ch H H' s.heap h')(hok:HOk X.prog X.w H' h')(hg:AllBare g')
  (hch:∀b∈ch,(b∈X.ex\/X.s₀.heap.objs.size<=b)/\b≠X.env.locals/\(∀x c,X.env.cells.lookup x=some c->c≠b)/\∀p∈X.pn++pins,p.1≠b) :
  Inv X pins σ H' { s with heap:=h',gens:=g',drawn:=d',toks:=t' }:=by
 obtain⟨m,⟨o,es,ep,ho,r⟩,_⟩:=id I.loc;obtain⟨sl,hL⟩:=u.any ho I.free λz=>(hch _ z).2.1 rfl;exact I.step (ch:=ch) hch (λb o hL hb hc e n=>u.keep b o e n (λz=>(List.mem_cons.mp (I.stkSub b z)).elim hL hb) hc) (λb o _ _ hc e n=>u.any e n hc) (λb o hc e n=>u.free b o e n hc) (λb o hc e=>u.there b o e hc) u.tups u.frzs u.tbls (λm' hm=>by
  obtain⟨o',es',ep',ho',r'⟩:=hm;rw[ho]at ho';cases ho';exact⟨_,es',ep',hL,r'⟩) hok hg
theorem Inv.turned{t':Nat}{it:Addr}(I:Inv X pins σ H s)(k:∀b o,b≠it->s.heap.get? b=some o->h'.get? b=some o)(hn:H it=none)(hL:it≠X.env.locals)
  (h1:it∈X.ex\/X.s₀.heap.objs.size<=it) (h2:∀x c,X.env.cells.lookup x=some c->c≠it) (h3:∀p∈X.pn++pins,p.1≠it):Inv X pins σ H { s with heap:=h',toks:=t' }:=by
 have nit:∀b u,H b=some u->b≠it:=λb u e z=>by rw[z,hn]at e;cases e
 refine I.step (g':=s.gens) (d':=s.drawn) (ch:=[it]) (λb hb=>?_) (λb o _ _ hc e _=>k b o (λz=>hc (by simp[z])) e) (λb o _ _ hc e _=>⟨o.slots,k b o (λz=>hc (by simp[z])) e⟩) (λ_ _ _ _ n=>n)
  (λb o hc e=>⟨o,k b o (λz=>hc (by simp[z])) e⟩) (λ_ _ e=>e) (λ_ _ _ e=>e) (λb ps e=>⟨#[],by rw[e];simp⟩) (λm hm=>?_) (λb u e=>?_) I.bare
 ·have e:b=it:=by simpa using hb
  subst e;exact⟨h1,hL,h2,h3⟩
 ·obtain⟨o,es,ep,ho,r⟩:=hm;exact⟨o,es,ep,k _ o (Ne.symm hL) ho,r⟩
 ·refine(I.hok b u e).stay (λc v hc q=>k c v ?_ q) (λ_ q=>q) λ_ _ q=>q;rcases hc with z|z
  ·rw[z];exact nit b u e
  ·exact nit c _ z
theorem Inv.tok(I:Inv X pins σ H s)(t:Nat):Inv X pins σ H { s with toks:=t }:=I.un (h':=s.heap) (t':=t) Un.refl I.hok
theorem Inv.kept{t':Nat}(I:Inv X pins σ H s)(k:∀b u,s.heap.get? b=some u->h'.get? b=some u):Inv X pins σ H { s with heap:=h',toks:=t' }:=I.un (Un.kept k) (I.hok.kept k)
theorem Inv.laid{a:Addr}{o:HO}{t':Nat}(I:Inv X pins σ H s)(k:∀b u,s.heap.get? b=some u->h'.get? b=some u)(hp:s.heap.objs.size<=a)(new:ObjOk X.prog X.w (upd H a o) h' a o):
  Inv X pins σ (upd H a o) { s with heap:=h',toks:=t' }:=I.un (Un.laid k hp (I.hok.fresh hp)) (I.hok.laid k hp new)
theorem Inv.write{x e:Addr}{o:HO}{t':Nat}(I:Inv X pins σ H s)(mu:Mut (H x))(he:e=x\/H e=some (.own x))(k:∀b u,b≠e->s.heap.get? b=some u->h'.get? b=some u)(heo:∃u,h'.get? e=some u)
  (new:ObjOk X.prog X.w (upd H x o) h' x o):Inv X pins σ (upd H x o) { s with heap:=h',toks:=t' }:=I.un (Un.write mu he k heo) (I.hok.write mu he k heo new)
theorem Inv.pins_of{pins':List (Addr×Obj)}(I:Inv X pins σ H s)(h:∀p∈pins',s.heap.get? p.1=some p.2/\H p.1=none/\p.1≠X.env.locals/\p.1∉X.fs/\∀v,p.2.data ≠ .cell v):Inv X pins' σ H s :=
 ⟨I.ok,I.os,I.bare,I.base,I.loc,I.cell,I.free,I.freeC,λp hp=>(List.mem_append.mp hp).elim (λz=>I.pin p (List.mem_append_left _ z)) (h p),I.hok,I.len⟩
theorem zeg{N:List Str}(hN:N.Nodup){i j:Nat}{x:Str}(a:N[i]?=some x)(b:N[j]?=some x):i=j:=by
 obtain⟨h1,e1⟩:=List.getElem?_eq_some_iff.mp a;obtain⟨h2,e2⟩:=List.getElem?_eq_some_iff.mp b;exact(List.getElem_inj hN).mp (e1.trans e2.symm)
theorem zh9{M:Model}{A:Around}{E:Value->Shared->Prop}{i:Nat}{x:Str}{v:V}{u:Value}{Q:Unit->Shared->Prop}(I:Inv X pins σ H s)(hN:X.N.Nodup)(hi:X.N[i]?=some x)(hx:Loc X.env.scope x)(r:RelV v u)
  (h:∀s',Inv X pins (σ.set i (some v)) H s'->(∃a,Heap.SameBut a s.heap s'.heap/\(a=X.env.locals\/X.env.cells.lookup x=some a))->Q () s') (hf:X.fn x=true\/X.env.scope.names.lookup x=some .local:=by first|exact .inl rfl|exact .inr rfl|assumption):wpAny M A (storeName X.env x u) Q E s:=by
 obtain⟨m,hn,hl⟩:=id I.loc;have hcls:(X.env.scope.kind == .class ||(X.env.scope.kind == .module && X.env.locals != X.env.globals))=false:=by rw[I.ok.kind];rfl
 have hiσ:i<σ.length:=by rw[I.len];exact(List.getElem?_eq_some_iff.mp hi).1
 have cne:=I.cne;have tracked:∀{a:Addr}{h':Heap},(∃o,s.heap.get? a=some o/\H a=none)->Heap.SameBut a s.heap h'->HOk X.prog X.w H h':=λ{a h'} ha hs b ob e=>by
  obtain⟨_,_,hfree⟩:=ha;refine(I.hok b ob e).stay (λc w' hc q=>(hs.2 c ?_).trans q) (λ_ q=>q) λ_ _ q=>q;rintro rfl;rcases hc with rfl|hc
  ·rw[hfree]at e;cases e
  ·rw[hfree]at hc;cases hc
 rcases hx with hk|hk
 ·refine wpAny_storeName_local hk hn (λh' hn' hs=>?_) hcls;obtain⟨oL,_,_,hoL,_⟩:=id hn;refine h _ ⟨I.ok,I.os,I.bare,⟨λb o e n hb hx=>?_,λb o e n hb hx=>?_,I.base.free,λb o e hx=>?_,I.base.tups,I.base.frzs,I.base.tbls⟩,⟨_,hn',λj y v' e1 e2 e3=>?_⟩,λy c e=>?_,I.free,I.freeC,λp hp=>?_,tracked ⟨oL,hoL,I.free⟩ hs,by simpa using I.len⟩ ⟨_,hs,.inl rfl⟩
  ·exact(hs.2 b (Nat.ne_of_lt (Nat.lt_of_lt_of_le (Heap.lt_size e) I.ok.above))).trans (I.base.keep b o e n hb hx)
  ·obtain⟨sl,e1⟩:=I.base.slot b o e n hb hx;exact⟨sl,(hs.2 b (Nat.ne_of_lt (Nat.lt_of_lt_of_le (Heap.lt_size e) I.ok.above))).trans e1⟩
  ·obtain⟨o',e1⟩:=I.base.there b o e hx;exact⟨o',(hs.2 b (Nat.ne_of_lt (Nat.lt_of_lt_of_le (Heap.lt_size e) I.ok.above))).trans e1⟩
  ·by_cases hj:j=i
   ·subst hj;rw[hi]at e1;cases e1;rw[List.getElem?_set_self hiσ]at e2
    cases e2;exact⟨u,r,.inl ⟨hk,by simp⟩⟩
   ·rw[List.getElem?_set_ne (Ne.symm hj)]at e2;obtain⟨u',r',q⟩:=hl j y v' e1 e2 e3;refine⟨u',r',?_⟩;rcases q with⟨k,e⟩ |⟨k,c,e,z⟩
    ·refine .inl ⟨k,?_⟩;have:y≠x:=λe=>hj (zeg hN e1 (e ▸ hi));simp[this,e]
    ·exact .inr ⟨k,c,e,z.sameBut hs (cne y c e)⟩
  ·obtain⟨w',z⟩:=I.cell y c e;exact⟨w',z.sameBut hs (cne y c e)⟩
  ·obtain⟨e,n,ne,nf,d⟩:=I.pin p hp;exact⟨(hs.2 p.1 ne).trans e,n,ne,nf,d⟩
 ·have hfn:X.fn x=true:=by
   rcases hf with z|z
   ·exact z
   ·rw[z]at hk;cases hk
  obtain⟨c,hc⟩:=I.ok.has x (.inl hk);obtain⟨w',z⟩:=I.cell x c hc;refine wpAny_storeName_cell I.ok.kind hk hc z (λh' hc' hs=>?_);obtain⟨oc,hoc,hocd⟩:=id z;refine h { s with heap:=h' } ⟨I.ok,I.os,I.bare,⟨λb o e n hb hx=>?_,λb o e n hb hx=>?_,I.base.free,λb o e hx=>?_,I.base.tups,I.base.frzs,I.base.tbls⟩,⟨m,hn.sameBut hs (Ne.symm (cne x c hc)),λj y v' e1 e2 e3=>?_⟩,λy c' e=>?_,I.free,I.freeC,λp hp=>?_,tracked ⟨oc,hoc,I.freeC x c hc⟩ hs,by simpa using I.len⟩ ⟨c,hs,.inr hc⟩
  ·exact(hs.2 b (Nat.ne_of_lt (Nat.lt_of_lt_of_le (Heap.lt_size e) (I.ok.cab x c hfn hc)))).trans (I.base.keep b o e n hb hx)
  ·obtain⟨sl,e1⟩:=I.base.slot b o e n hb hx;exact⟨sl,(hs.2 b (Nat.ne_of_lt (Nat.lt_of_lt_of_le (Heap.lt_size e) (I.ok.cab x c hfn hc)))).trans e1⟩
  ·obtain⟨o',e1⟩:=I.base.there b o e hx;exact⟨o',(hs.2 b (Nat.ne_of_lt (Nat.lt_of_lt_of_le (Heap.lt_size e) (I.ok.cab x c hfn hc)))).trans e1⟩
  ·by_cases hj:j=i
   ·subst hj;rw[hi]at e1;cases e1;rw[List.getElem?_set_self hiσ]at e2
    cases e2;exact⟨u,r,.inr ⟨.inl hk,c,hc,hc'⟩⟩
   ·rw[List.getElem?_set_ne (Ne.symm hj)]at e2;obtain⟨u',r',q⟩:=hl j y v' e1 e2 e3;refine⟨u',r',?_⟩;rcases q with q |⟨k,c',e,z'⟩
    ·exact .inl q
    ·refine .inr ⟨k,c',e,z'.sameBut hs ?_⟩;rintro rfl;exact hj (zeg hN e1 (I.ok.inj _ _ _ e hc ▸ hi))
  ·by_cases hcc:c'=c
   ·subst hcc;exact⟨_,hc'⟩
   ·obtain⟨w2,z2⟩:=I.cell y c' e;exact⟨w2,z2.sameBut hs hcc⟩
  ·obtain⟨e,n,ne,nf,d⟩:=I.pin p hp;refine⟨(hs.2 p.1 ?_).trans e,n,ne,nf,d⟩;intro q;rw[q,hoc]at e;have q':oc=p.2:=Option.some.inj e;exact d w' (by rw[<-q'];exact hocd)
theorem xo{M:Model}{A:Around}{E:Value->Shared->Prop}{i:Nat}{x:Str}{v:V}{u:Value}{Q:Unit->Shared->Prop}(I:Inv X pins σ H s)(hN:X.N.Nodup)(hi:X.N[i]?=some x)(hx:Loc X.env.scope x)(r:RelV v u)
  (h:∀s',Inv X pins (σ.set i (some v)) H s'->Q () s') (hf:X.fn x=true\/X.env.scope.names.lookup x=some .local:=by first|exact .inl rfl|exact .inr rfl|assumption):wpAny M A (storeName X.env x u) Q E s :=
 zh9 I hN hi hx r (λs' I' _=>h s' I') hf
theorem Inv.call'{s':Shared}{ch:List Addr}(I:Inv X pins σ H s)(ho:s'.os=s.os)(u:Un (frs X.stack) ch H H' s.heap s'.heap)(hok:HOk X.prog X.w H' s'.heap)(hg:AllBare s'.gens)
  (hch:∀b∈ch,(b∈X.ex\/X.s₀.heap.objs.size<=b)/\b≠X.env.locals/\(∀x c,X.env.cells.lookup x=some c->c≠b)/\∀p∈X.pn++pins,p.1≠b):Inv X pins σ H' s':=by
 obtain⟨h',g',d',t',o'⟩:=s';have e:o'=s.os:=ho;subst e;exact I.call (g':=g') (t':=t') (d':=d') u hok hg hch
end
abbrev XK:=Value->Option Addr->Hp->Prop
abbrev St:=List (Option V)
abbrev VK:=V->Hp->Prop
abbrev TE:=St->Hp->VK->Prop
abbrev TT:=St->Hp->(Bool->Hp->Prop)->Prop
abbrev TA:=St->Hp->(List V->Hp->Prop)->Prop
structure zfv where
 nx:St->Hp->Prop
 rt:VK
 bk:St->Hp->Prop:=λ_ _=>False
 ct:St->Hp->Prop:=λ_ _=>False
abbrev TS:=zfv->St->Hp->Prop
def EP(X:Cx)(pins:List (Addr×Obj))(σ:St)(Q:VK)(u:Value)(s':Shared):Prop:=∃v H',Inv X pins σ H' s'/\RelV v u/\Q v H'
def TP(X:Cx)(pins:List (Addr×Obj))(σ:St)(Q:Bool->Hp->Prop)(b:Bool)(s':Shared):Prop:=∃H',Inv X pins σ H' s'/\Q b H'
def AP(X:Cx)(pins:List (Addr×Obj))(σ:St)(Q:List V->Hp->Prop)(us:List Value)(s':Shared):Prop:=∃vs H',Inv X pins σ H' s'/\Vals vs us/\Q vs H'
def SP(X:Cx)(pins:List (Addr×Obj))(D:zfv)(f:Flow)(s':Shared):Prop :=
 match f with
 |.next=>∃σ' H',Inv X pins σ' H' s'/\D.nx σ' H'
 |.brk=>∃σ' H',Inv X pins σ' H' s'/\D.bk σ' H'
 |.cont=>∃σ' H',Inv X pins σ' H' s'/\D.ct σ' H'
 |.ret u=>∃v σ' H',Inv X pins σ' H' s'/\RelV v u/\D.rt v H'
def PE(X:Cx)(e:Expr)(t:TE):Prop :=
 ∀(pins:List (Addr×Obj)) (s:Shared) (σ:St) (H:Hp) (Q:VK),Inv X pins σ H s->t σ H Q->wpAny (model X.prog X.w) X.A (eval e X.env) (EP X pins σ Q) X.xe s
def PT(X:Cx)(e:Expr)(t:TT):Prop :=
 ∀(pins:List (Addr×Obj)) (s:Shared) (σ:St) (H:Hp) (Q:Bool->Hp->Prop),Inv X pins σ H s->t σ H Q->wpAny (model X.prog X.w) X.A (isTrue e X.env (eval e X.env)) (TP X pins σ Q) X.xe s
def PW(X:Cx)(e:Expr)(t:TT):Prop :=
 ∀(whole:Sem Value) (pins:List (Addr×Obj)) (s:Shared) (σ:St) (H:Hp) (Q:Bool->Hp->Prop),Inv X pins σ H s->t σ H Q->wpAny (model X.prog X.w) X.A (isTrue e X.env whole) (TP X pins σ Q) X.xe s
theorem PW.pt{X:Cx}{e:Expr}{t:TT}(h:PW X e t):PT X e t:=h _
def PA(X:Cx)(es:List Expr)(t:TA):Prop :=
 ∀(pos:Pos) (pins:List (Addr×Obj)) (s:Shared) (σ:St) (H:Hp) (Q:List V->Hp->Prop),Inv X pins σ H s->t σ H Q->wpAny (model X.prog X.w) X.A (spliced (backTo pos (starEach es X.env))) (AP X pins σ Q) X.xe s
def PS(X:Cx)(st:Stmt)(t:TS):Prop :=
 ∀(pins:List (Addr×Obj)) (s:Shared) (σ:St) (H:Hp) (D:zfv),Inv X pins σ H s->t D σ H->wpAny (model X.prog X.w) X.A (exec st X.env) (SP X pins D) X.xe s
def PSs(X:Cx)(st:List Stmt)(t:TS):Prop :=
 ∀(pins:List (Addr×Obj)) (s:Shared) (σ:St) (H:Hp) (D:zfv),Inv X pins σ H s->t D σ H->wpAny (model X.prog X.w) X.A (execs st X.env) (SP X pins D) X.xe s
theorem thn{α:Type}{t:Sem α}{Q Q':α->Shared->Prop}{M:Model}{A:Around}{E:Value->Shared->Prop}{s:Shared}(h:wpAny M A t Q E s)(hQ:∀a s,Q a s->Q' a s):wpAny M A t Q' E s:=wpAny_mono h hQ λ_ _ x=>x
section
variable {X:Cx}
def zsf(i:Nat):TE:=λσ H Q=>∃v,σ[i]?=some (some v)/\Q v H
def tC(v:V):TE:=λ_ H Q=>Q v H
theorem yp{i:Nat}{x:Str}{pos:Pos}(hN:X.N[i]?=some x)(hv:Vis X.env.scope x)(hd:(x ==("__debug__" : Str))=false:=by decide)(hcd:(x ==("__classdict__" : Str))=false:=by decide):PE X (.Name x pos) (zsf i):=by
 intro pins s σ H Q I h;obtain⟨v,e,h⟩:=h;obtain⟨m,hn,hl⟩:=I.loc;obtain⟨u,r,l⟩:=hl i x v hN e hv;have fin:EP X pins σ Q u s:=⟨v,H,I,r,h⟩
 rcases l with⟨hk,hm⟩ |⟨hk,c,hc,hcell⟩
 ·exact wpAny_Name (wpAny_loadName_local I.ok.kind hk hn hm fin) hd
 ·rcases hk with hk|hk
  ·exact wpAny_Name (wpAny_loadName_cell I.ok.kind hk hc hcell fin) hd
  ·exact wpAny_Name (wpAny_loadName_free I.ok.kind hk hc hcell fin hcd) hd
theorem xg{i j pos}:PE X (.Constant (.int i) j pos) (tC (.int i)):=λ_ _ _ H _ I h=>wpAny_Constant_int ⟨.int i,H,I.tok _,⟨_,rfl⟩,h⟩
theorem zsg{b j pos}:PE X (.Constant (.bool b) j pos) (tC (.bl b)):=λ_ _ _ H _ I h=>Constant_bool ⟨.bl b,H,I,rfl,h⟩
theorem zpl{j pos}:PE X (.Constant .none j pos) (tC .non):=λ_ _ _ H _ I h=>Constant_none ⟨.non,H,I,rfl,h⟩
theorem zpm{x j pos}:PE X (.Constant (.str x) j pos) (tC (.str x)):=λ_ _ _ H _ I h=>Calls.Constant_str ⟨.str x,H,I.tok _,⟨_,rfl⟩,h⟩
def Gl(X:Cx)(x:Str):Prop:=X.env.kindOf x=some .globalImplicit
theorem zda{E:Value->Shared->Prop}{pins:List (Addr×Obj)}{s:Shared}{σ:St}{H:Hp}{x:Str}{u:Value}{pos:Pos}{Q:Value->Shared->Prop}(I:Inv X pins σ H s)(hg:Gl X x)(hm:X.mg x=some u)(h:Q u s)
  (hd:(x ==("__debug__" : Str))=false:=by decide):wpAny (model X.prog X.w) X.A (eval (.Name x pos) X.env) Q E s :=
 Calls.Name_function_global I.ok.kind hg (Calls.loadGlobal_global (by rw[I.ok.glob];exact I.mod.glob.keeps I.bk) hm h) hd
theorem jz{E:Value->Shared->Prop}{pins:List (Addr×Obj)}{s:Shared}{σ:St}{H:Hp}{x:Str}{u:Value}{pos:Pos}{Q:Value->Shared->Prop}(I:Inv X pins σ H s)(hg:Gl X x)(hm:X.mg x=none)(hv:bootBuiltins x=some u)(h:Q u s)
  (hn:x ≠ "__name__" := by decide) (hd:(x ==("__debug__" : Str))=false:=by decide):wpAny (model X.prog X.w) X.A (eval (.Name x pos) X.env) Q E s:=by
 obtain⟨mb,h1,h2⟩:=I.mod.blt;exact Calls.Name_function_global I.ok.kind hg (Calls.loadGlobal_builtin (by rw[I.ok.glob];exact I.mod.glob.keeps I.bk) hm (by rw[I.ok.blt];exact h1.keeps I.bk) ((h2 x hn).trans hv) h) hd
theorem zmk{x:Str}{v:V}{u:Value}{pos:Pos}(hg:Gl X x)(hm:X.mg x=some u)(r:RelV v u)(hd:(x ==("__debug__" : Str))=false:=by decide):PE X (.Name x pos) (tC v) :=
 λ_ _ _ H _ I h=>zda I hg hm ⟨v,H,I,r,h⟩ hd
theorem zml{x:Str}{v:V}{u:Value}{pos:Pos}(hg:Gl X x)(hm:X.mg x=none)(hv:bootBuiltins x=some u)(r:RelV v u)(hn:x ≠ "__name__" := by decide)(hd:(x ==("__debug__" : Str))=false:=by decide):PE X (.Name x pos) (tC v) :=
 λ_ _ _ H _ I h=>jz I hg hm hv ⟨v,H,I,r,h⟩ hn hd
variable {a b:Expr}{ta tb:TE}{pos:Pos}
def PC(X:Cx)(op:CmpOp)(a b:Expr)(t:TE):Prop :=
 ∀(pins:List (Addr×Obj)) (s:Shared) (σ:St) (H:Hp) (Q:VK),Inv X pins σ H s->t σ H Q ->
  wpAny (model X.prog X.w) X.A (eval a X.env) (λv s₁=>wpAny (model X.prog X.w) X.A (eval b X.env) (λu s₂=>wpAny (model X.prog X.w) X.A (compareOp op v u) (EP X pins σ Q) X.xe s₂) X.xe s₁) X.xe s
theorem zjg(b:Expr){op:CmpOp}(h:op ≠ .In)(h2:op ≠ .NotIn):behindInMarks op b=false:=by
 have e1:(op == CmpOp.In)=false:=by cases op <;> first|rfl|exact absurd rfl h
 have e2:(op == CmpOp.NotIn)=false:=by cases op <;> first|rfl|exact absurd rfl h2
 cases b <;> simp[behindInMarks,e1,e2]
def tB(t:TE):TT:=λσ H Q=>t σ H λx H1=>∃c,x=.bl c/\Q c H1
theorem zjh{op:CmpOp}{t:TE}(h:PC X op a b t)(h1:behindInMarks op b=false:=by first|exact zjg _ (by decide) (by decide)|rfl):PT X (.Compare a [op] [b] pos) (tB t):=by
 intro pins s σ H Q I hw;refine wpAny_isTrue_Compare1 (thn (h pins s σ H _ I hw) λv s1 h1=>thn h1 λu s2 h2=>thn h2 λc s3 ⟨x,H1,I1,r1,q1⟩=>?_) h1;obtain⟨d,rfl,q⟩:=q1
 cases r1;exact wpAny_truthy_bool ⟨H1,I1,q⟩
variable {tA tB':TT}{rest:List Expr}
def zt5(t u:TT):TT:=λσ H Q=>t σ H λc H1=>if c=true then u σ H1 Q else Q false H1
theorem zmm(ha:PT X a tA):PW X (.BoolOp .And [a] pos) tA:=by
 intro wh pins s σ H Q I h;refine isTrue_and (thn (ha pins s σ H Q I h) λc s1 e=>?_)
 cases c with
 |true=>exact isTrue_and_nil e
 |false=>exact e
theorem zpn(ha:PT X a tA)(hb:PW X (.BoolOp .And (b::rest) pos) tB'):PW X (.BoolOp .And (a::b::rest) pos) (zt5 tA tB'):=by
 intro wh pins s σ H Q I h;refine isTrue_and (thn (ha pins s σ H _ I h) λc s1 ⟨H1,I1,q1⟩=>?_)
 cases c with
 |true=>exact hb wh pins s1 σ H1 Q I1 q1
 |false=>exact⟨H1,I1,q1⟩
def zsh(ta:TE):TE:=λσ H Q=>ta σ H λx H1=>∃c,x=.bl c/\Q (.bl (!c)) H1
theorem zpo(ha:PE X a ta):PE X (.UnaryOp .Not a pos) (zsh ta):=by
 intro pins s σ H Q I h;refine UnaryOp_ (thn (ha pins s σ H _ I h) λv s1 ⟨x,H1,I1,r1,q1⟩=>?_);obtain⟨c,rfl,q1⟩:=q1
 cases r1;exact not_of (wpAny_truthy_bool ⟨.bl (!c),H1,I1,rfl,q1⟩)
def tIf(t:TT)(ta tb:TE):TE:=λσ H Q=>t σ H λc H1=>if c=true then ta σ H1 Q else tb σ H1 Q
theorem zji{c:Expr}(hc:PT X c tA)(ha:PE X a ta)(hb:PE X b tb):PE X (.IfExp c a b pos) (tIf tA ta tb):=by
 intro pins s σ H Q I h;refine wpAny_IfExp (thn (hc pins s σ H _ I h) λd s1 ⟨H1,I1,q1⟩=>?_)
 cases d with
 |true=>exact ha pins s1 σ H1 Q I1 q1
 |false=>exact hb pins s1 σ H1 Q I1 q1
end
def SqL(K:PySem.W.Frag)(H:Hp)(a:Addr)(xs:List V):Prop :=
 Rd H a (.lst xs) \/
  ∃(o:Obj) (its:Array Value) (n:Nat),K.lookup a=some o/\o.cls=.type "list" /\ o.dict=none/\o.data=.seq its n/\its.size<=sizeLine/\Vals xs its.toList
def SqT(K:PySem.W.Frag)(H:Hp)(a:Addr)(xs:List V):Prop :=
 Rd H a (.tup xs) \/
  ∃(o:Obj) (its:Array Value) (n:Nat),K.lookup a=some o/\o.cls=.type "tuple" /\ o.dict=none/\o.data=.seq its n/\its.size<=sizeLine/\Vals xs its.toList
def zt6:Value->Option V
 |.none=>some .non
 |.bool b=>some (.bl b)
 |.int i _=>some (.int i)
 |.str x _=>some (.str x)
 |.bytes b _=>some (.byt b)
 |.float b _=>some (.flt b)
 |.ref a=>some (.ref a)
 |.type n=>some (.ty n)
 |_=>none
theorem RelV.abs{x:V}{u:Value}(r:RelV x u):zt6 u=some x:=by
 cases x with
 |non=>cases r;rfl
 |bl _=>cases r;rfl
 |int _=>obtain⟨t,rfl⟩:=r;rfl
 |str _=>obtain⟨t,rfl⟩:=r;rfl
 |byt _=>obtain⟨t,rfl⟩:=r;rfl
 |flt _=>obtain⟨t,rfl⟩:=r;rfl
 |ref _=>cases r;rfl
 |ty _=>cases r;rfl
theorem RelV.inj{x y:V}{u:Value}(r:RelV x u)(q:RelV y u):x=y:=Option.some.inj (r.abs.symm.trans q.abs)
theorem Vals.inj{xs ys:List V}{us:List Value}(h:Vals xs us)(h':Vals ys us):xs=ys:=by
 induction h generalizing ys with
 |nil=>cases h';rfl
 |cons r t ih=>
  cases h' with
  |cons r' t'=>rw[r.inj r',ih t']
section
variable {X:Cx}{pins:List (Addr×Obj)}{σ:St}{H:Hp}{s:Shared}{a:Addr}{xs ys:List V}
theorem SqL.of{K:PySem.W.Frag}(h:H a=some (.lst xs)):SqL K H a xs:=.inl (.inl h)
theorem SqT.of{K:PySem.W.Frag}(h:H a=some (.tup xs)):SqT K H a xs:=.inl (.inl h)
theorem Inv.list(I:Inv X pins σ H s)(h:SqL X.K H a xs):∃its:List Value,Vals xs its/\PlainL s.heap a its.toArray/\xs.length<=sizeLine:=by
 rcases h with h |⟨o,its,n,hk,hc,hd,hs,hz,r⟩
 ·obtain⟨z,its,n,r,e⟩:=h.ok I.hok;exact⟨its,r,⟨_,n,e,rfl,rfl,rfl⟩,z⟩
 ·refine⟨its.toList,r,⟨o,n,I.kIn a o hk,hc,hd,by simpa using hs⟩,?_⟩;have e:=r.length;simp only[Array.length_toList]at e;omega
theorem Inv.tupleD(I:Inv X pins σ H s)(h:SqT X.K H a xs):∃its:List Value,Vals xs its/\TupD s.heap a its.toArray/\xs.length<=sizeLine:=by
 rcases h with h |⟨o,its,n,hk,hc,hd,hs,hz,r⟩
 ·obtain⟨z,its,r,p⟩:=h.ok I.hok;exact⟨its,r,p,z⟩
 ·refine⟨its.toList,r,⟨o,I.kIn a o hk,hc,⟨n,by simpa using hs⟩,hd⟩,?_⟩;have e:=r.length;simp only[Array.length_toList]at e;omega
theorem Inv.tuple(I:Inv X pins σ H s)(h:SqT X.K H a xs):∃its:List Value,Vals xs its/\IsTup s.heap a its.toArray/\xs.length<=sizeLine:=by
 obtain⟨its,r,p,z⟩:=I.tupleD h;exact⟨its,r,p.isTup,z⟩
theorem Inv.list_inj(I:Inv X pins σ H s)(h:SqL X.K H a xs)(h':SqL X.K H a ys):xs=ys:=by
 obtain⟨its,r,⟨o,n,e,_,_,d⟩,_⟩:=I.list h;obtain⟨its',r',⟨o',n',e',_,_,d'⟩,_⟩:=I.list h';rw[e]at e';cases e';rw[d]at d';injection d' with d1 _
 have:its=its':=by simpa using congrArg Array.toList d1
 subst this;exact r.inj r'
theorem Inv.tuple_inj(I:Inv X pins σ H s)(h:SqT X.K H a xs)(h':SqT X.K H a ys):xs=ys:=by
 obtain⟨its,r,⟨o,e,_,n,d⟩,_⟩:=I.tuple h;obtain⟨its',r',⟨o',e',_,n',d'⟩,_⟩:=I.tuple h';rw[e]at e';cases e';rw[d]at d';injection d' with d1 _
 have:its=its':=by simpa using congrArg Array.toList d1
 subst this;exact r.inj r'
end
abbrev Cx.wish(X:Cx)(E:Value->Shared->Prop):Cx:={ X with xe:=E }
abbrev Cx.nox(X:Cx):Cx:=X.wish λ_ _=>False
theorem Cx.Ok.wish{X:Cx}(ok:X.Ok)(E:Value->Shared->Prop):(X.wish E).Ok :=
 ⟨ok.mod,ok.kind,ok.glob,ok.blt,ok.above,ok.inj,ok.has,ok.cab,ok.hd,ok.frames,ok.stk,ok.exf,ok.bs,ok.bsz,ok.noex,ok.exfs,ok.funs,ok.frf⟩
theorem Cx.Ok.unwish{X:Cx}{E:Value->Shared->Prop}(ok:(X.wish E).Ok):X.Ok :=
 ⟨ok.mod,ok.kind,ok.glob,ok.blt,ok.above,ok.inj,ok.has,ok.cab,ok.hd,ok.frames,ok.stk,ok.exf,ok.bs,ok.bsz,ok.noex,ok.exfs,ok.funs,ok.frf⟩
section
variable {X:Cx}{pins:List (Addr×Obj)}{σ:St}{H:Hp}{s:Shared}{E:Value->Shared->Prop}
theorem Inv.wish(I:Inv X pins σ H s)(E:Value->Shared->Prop):Inv (X.wish E) pins σ H s:=⟨I.ok.wish E,I.os,I.bare,I.base,I.loc,I.cell,I.free,I.freeC,I.pin,I.hok,I.len⟩
theorem Inv.unwish(I:Inv (X.wish E) pins σ H s):Inv X pins σ H s:=⟨I.ok.unwish,I.os,I.bare,I.base,I.loc,I.cell,I.free,I.freeC,I.pin,I.hok,I.len⟩
theorem SP.unwish{D:zfv}{f:Flow}{s':Shared}(h:SP (X.wish E) pins D f s'):SP X pins D f s':=by
 cases f with
 |next=>obtain⟨σ',H',I,q⟩:=h;exact⟨σ',H',I.unwish,q⟩
 |brk=>obtain⟨σ',H',I,q⟩:=h;exact⟨σ',H',I.unwish,q⟩
 |cont=>obtain⟨σ',H',I,q⟩:=h;exact⟨σ',H',I.unwish,q⟩
 |ret u=>obtain⟨v,σ',H',I,r,q⟩:=h;exact⟨v,σ',H',I.unwish,r,q⟩
theorem PSs.nox{st:List Stmt}{t:TS}(h:PSs X.nox st t):PSs X st t:=λpins s σ H D I hw=>
 wpAny_mono (h pins s σ H D (I.wish _) hw) (λ_ _ q=>q.unwish) λ_ _ z=>False.elim z
end
section
variable {X:Cx}{st:Stmt}{rest:List Stmt}{t u:TS}{e:Expr}{te:TE}{pos:Pos}
def zsi:TS:=λD σ H=>D.nx σ H
def zt7(t u:TS):TS:=λD σ H=>t { D with nx:=u D } σ H
theorem zmn:PSs X [] zsi:=λ_ _ σ H _ I h=>wpAny_execs_nil ⟨σ,H,I,h⟩
theorem jh(h1:PS X st t)(h2:PSs X rest u):PSs X (st::rest) (zt7 t u):=by
 intro pins s σ H D I h;refine wpAny_execs_cons (thn (h1 pins s σ H { D with nx:=u D } I h) λf s1 q=>?_)
 cases f with
 |next=>
  obtain⟨σ',H',I',q⟩:=q;exact h2 pins s1 σ' H' D I' q
 |ret v=>exact q
 |brk=>exact q
 |cont=>exact q
theorem zha(h1:PS X st t):PSs X [st] t:=by
 intro pins s σ H D I h;refine wpAny_execs_cons (thn (h1 pins s σ H D I h) λf s1 q=>?_)
 cases f with
 |next=>exact wpAny_execs_nil q
 |ret v=>exact q
 |brk=>exact q
 |cont=>exact q
theorem Inv.quiet{pins:List (Addr×Obj)}{σ:St}{H:Hp}{s:Shared}(I:Inv X pins σ H s):interactive X.env=false:=by simp[interactive,I.ok.kind]
def zsj(te:TE):TS:=λD σ H=>te σ H λ_ H1=>D.nx σ H1
theorem zhb(he:PE X e te)(hs:swapsWith e none pos.line X.env=pure false:=by rfl):PS X (.Expr e pos) (zsj te):=by
 intro pins s σ H D I h;exact wpAny_Expr_any (thn (he pins s σ H _ I h) λv s1 ⟨x,H1,I1,r1,q1⟩=>⟨σ,H1,I1,q1⟩) I.quiet hs
def zt8(te:TE):TS:=λD σ H=>te σ H D.rt
theorem j0(he:PE X e te):PS X (.Return (some e) pos) (zt8 te):=by
 intro pins s σ H D I h;exact wpAny_Return_some (thn (he pins s σ H _ I h) λv s1 ⟨x,H1,I1,r1,q1⟩=>⟨x,σ,H1,I1,r1,q1⟩)
def zt9(c:TT)(t u:TS):TS:=λD σ H=>c σ H λb H1=>if b=true then t D σ H1 else u D σ H1
theorem zsk{c:Expr}{a b:List Stmt}{tc:TT}(hc:PT X c tc)(ha:PSs X a t)(hb:PSs X b u):PS X (.If c a b pos) (zt9 tc t u):=by
 intro pins s σ H D I h;refine wpAny_If (thn (hc pins s σ H _ I h) λd s1 ⟨H1,I1,q1⟩=>?_)
 cases d with
 |true=>exact ha pins s1 σ H1 D I1 q1
 |false=>exact hb pins s1 σ H1 D I1 q1
end
abbrev TG:=V->St->Hp->(St->Hp->Prop)->Prop
abbrev TGs:=List V->St->Hp->(St->Hp->Prop)->Prop
def PG(X:Cx)(target:Expr)(t:TG):Prop :=
 ∀(pins:List (Addr×Obj)) (s:Shared) (σ:St) (H:Hp) (v:V) (u:Value) (Q:St->Hp->Prop),Inv X pins σ H s->RelV v u->t v σ H Q ->
  wpAny (model X.prog X.w) X.A (assign target X.env u) (λ_ s'=>∃σ' H',Inv X pins σ' H' s'/\Q σ' H') X.xe s
def PGs(X:Cx)(ts:List Expr)(t:TGs):Prop :=
 ∀(pins:List (Addr×Obj)) (s:Shared) (σ:St) (H:Hp) (vs:List V) (us:List Value) (Q:St->Hp->Prop),Inv X pins σ H s->Vals vs us->t vs σ H Q ->
  wpAny (model X.prog X.w) X.A (assignInOrder ((assignEach ts X.env).map (·.2)) us) (λ_ s'=>∃σ' H',Inv X pins σ' H' s'/\Q σ' H') X.xe s
abbrev zpp:=V->V->V->Hp->(Hp->Prop)->Prop
def zsl(X:Cx)(t:zpp):Prop :=
 ∀(pins:List (Addr×Obj)) (s:Shared) (σ:St) (H:Hp) (o i v:V) (ov iv u:Value) (Q:Hp->Prop),Inv X pins σ H s->RelV o ov->RelV i iv->RelV v u->t o i v H Q ->
  wpAny (model X.prog X.w) X.A (setItem ov iv u) (λ_ s'=>∃H',Inv X pins σ H' s'/\Q H') X.xe s
abbrev TIp:=V->V->Hp->VK->Prop
def PIp(X:Cx)(op:Operator)(t:TIp):Prop :=
 ∀(pins:List (Addr×Obj)) (s:Shared) (σ:St) (H:Hp) (x y:V) (v u:Value) (Q:VK),Inv X pins σ H s->RelV x v->RelV y u->t x y H Q ->
  wpAny (model X.prog X.w) X.A (inplaceOp op v u) (EP X pins σ Q) X.xe s
section
variable {X:Cx}{pos:Pos}
def zsm(i:Nat):TG:=λv σ H Q=>Q (σ.set i (some v)) H
def zua(to ti:TE)(t:zpp):TG:=λv σ H Q=>to σ H λo H1=>ti σ H1 λi H2=>t o i v H2 λH3=>Q σ H3
theorem zjj{o i:Expr}{to ti:TE}{t:zpp}(ho:PE X o to)(hi:PE X i ti)(hs:zsl X t)
  (ha:∀v,assign (.Subscript o i pos) X.env v=(do
   let ov <-holding [v] (eval o X.env)
   let iv <-holding [v,ov] (eval i X.env)
   standAt pos
   holding [v,ov,iv] (setItem ov iv v)
   release [v,ov,iv] []):=by intro _;rfl):PG X (.Subscript o i pos) (zua to ti t):=by
 intro pins s σ H v u Q I r h;rw[ha];refine wpAny_bind (wpAny_holding (thn (ho pins s σ H _ I h) λov s1 ⟨x,H1,I1,r1,q1⟩=>?_));refine wpAny_bind (wpAny_holding (thn (hi pins s1 σ H1 _ I1 q1) λiv s2 ⟨y,H2,I2,r2,q2⟩=>?_));refine wpAny_bind (wpAny_standAt (wpAny_bind (wpAny_holding (thn (hs pins s2 σ H2 x y v ov iv u _ I2 r1 r2 r q2) λ_ s3 ⟨H3,I3,q3⟩=>?_))));exact wpAny_release ⟨σ,H3,I3,q3⟩
def zsn(te:TE)(g:TG):TS:=λD σ H=>te σ H λx H1=>g x σ H1 D.nx
theorem zfw{tg e:Expr}{te:TE}{g:TG}(he:PE X e te)(hg:PG X tg g)(hs:swapsWithSole [tg] e pos.line X.env=pure false:=by rfl)(hw:swappedStores [tg] e X.env=pure none:=by rfl)
  (h1:(assignEach [tg] X.env).map (·.2) = [assign tg X.env]:=by rfl):PS X (.Assign [tg] e pos) (zsn te g):=by
 intro pins s σ H D I h;refine wpAny_Assign_stores (thn (he pins s σ H _ I h) λv s1 ⟨x,H1,I1,r1,q1⟩=>?_) hs hw;rw[h1];exact thn (hg pins s1 σ H1 x v _ I1 r1 q1) λ_ s2 q=>q
theorem vz{i:Nat}{x:Str}{e:Expr}{te:TE}{pos':Pos}(hN:X.N.Nodup)(hi:X.N[i]?=some x)(hx:Loc X.env.scope x)(he:PE X e te)(hs:swapsWith e (some (.Name x pos')) pos.line X.env=pure false:=by rfl)(hf:X.fn x=true\/X.env.scope.names.lookup x=some .local:=by first|exact .inl rfl|exact .inr rfl|assumption):
  PS X (.Assign [.Name x pos'] e pos) (zsn te (zsm i)):=by
 intro pins s σ H D I h;refine wpAny_Assign_Name (thn (he pins s σ H _ I h) λv s1 ⟨y,H1,I1,r1,q1⟩=>?_) hs;exact xo I1 hN hi hx r1 (λs2 I2=>⟨_,H1,I2,q1⟩) hf
def zub(i j:Nat)(ta:TA):TS:=λD σ H=>ta σ H λvs H1=>∃v w,vs = [v,w]/\D.nx ((σ.set i (some v)).set j (some w)) H1
theorem zpq{i j:Nat}{x y:Str}{a b:Expr}{ta:TA}{px py pt:Pos}{kt k2 pt2}(hc:X.calm=true)(hN:X.N.Nodup)(hi:X.N[i]?=some x)(hj:X.N[j]?=some y)(hij:i≠j)
  (hx:X.env.scope.names.lookup x=some .local) (hy:X.env.scope.names.lookup y=some .local) (ha:PA X [a,b] ta)
  (hw:swappedStores [.Tuple [.Name x px,.Name y py] kt pt] (.Tuple [a,b] k2 pt2) X.env=pure (some [x,y]))
  (hs:swapsWithSole [.Tuple [.Name x px,.Name y py] kt pt] (.Tuple [a,b] k2 pt2) pos.line X.env=pure false:=by rfl) :
  PS X (.Assign [.Tuple [.Name x px,.Name y py] kt pt] (.Tuple [a,b] k2 pt2) pos) (zub i j ta):=by
 intro pins s σ H D I h;rw[exec_Assign_arm];refine wpAny_bind (wpAny_standAt ?_);rw[hs];refine wpAny_bind (wpAny_pure ?_);rw[if_neg (by decide)];refine wpAny_bind (Tuple_ (thn (ha _ pins s σ H _ I h) λus s1 ⟨vs,H1,I1,r1,q1⟩=>?_));obtain⟨v,w,e1,q1⟩:=q1;subst e1;obtain⟨u1,u2,rfl,rv,rw'⟩:∃u1 u2,us = [u1,u2]/\RelV v u1/\RelV w u2:=by
  cases r1 with
  |cons p q=>
   cases q with
   |cons p' q'=>
    cases q';exact⟨_,_,rfl,p,p'⟩
 refine wpAny_newObj_type ?_ (by show 2<=sizeLine;decide);have I2:Inv X pins σ H1 { s1 with heap:=s1.heap.push { cls:=.type "tuple",data:=.seq [u1,u2].toArray } }:=I1.kept (t':=s1.toks) λb o e=>Heap.get?_push_of_some _ e;rw[hw];refine wpAny_bind (wpAny_pure ?_);show wpAny (model X.prog X.w) X.A (do rule "assign.swapped-stores";let items <-unpackItems (.ref s1.heap.objs.size) 2 none;assignInOrder [λv=>bindName X.env y v,λv=>bindName X.env x v] items.reverse;pure Flow.next) _ _ _;refine wpAny_bind (wpAny_rule (wpAny_bind (unpackItems_tuple (items:=#[u1,u2]) (I.ok.hd hc) (IsTup.new s1.heap _) λh' hx'=>?_)));have I3:=I2.kept (h':=h') (t':=s1.toks) λb o e=>hx' b o (Nat.ne_of_lt (Heap.lt_size e)) e;show wpAny _ _ (assignInOrder [λv=>bindName X.env y v,λv=>bindName X.env x v] [u2,u1] >>= λ_=>pure Flow.next) _ _ _;refine wpAny_bind (assignInOrder_cons (wpAny_bindName (xo I3 hN hj (.inl hy) rw' (λs2 I4=>?_) (.inr hy))));refine assignInOrder_cons (wpAny_bindName (xo I4 hN hi (.inl hx) rv (λs3 I5=>assignInOrder_nil (wpAny_pure ?_)) (.inr hx)));rw[List.set_comm _ _ (Ne.symm hij)]at I5;exact⟨_,H1,I5,q1⟩
def zuc(i:Nat)(te:TE)(ti:TIp):TS:=λD σ H=>∃x,σ[i]?=some (some x)/\te σ H λy H1=>ti x y H1 λz H2=>D.nx (σ.set i (some z)) H2
theorem zjk{i:Nat}{x:Str}{e:Expr}{te:TE}{op:Operator}{ti:TIp}{pos':Pos}(hN:X.N.Nodup)(hi:X.N[i]?=some x)(hx:Loc X.env.scope x)(he:PE X e te)(ho:PIp X op ti)(hf:X.fn x=true\/X.env.scope.names.lookup x=some .local:=by first|exact .inl rfl|exact .inr rfl|assumption):
  PS X (.AugAssign (.Name x pos') op e pos) (zuc i te ti):=by
 intro pins s σ H D I h;obtain⟨v,e1,h⟩:=h;obtain⟨m,hn,hl⟩:=I.loc;have vis:Vis X.env.scope x:=by rcases hx with k|k;exact .inl k;exact .inr (.inl k)
 obtain⟨u,r,l⟩:=hl i x v hi e1 vis;refine wpAny_AugAssign_Name ?_;have go:wpAny (model X.prog X.w) X.A (eval e X.env) (λw s₂=>wpAny (model X.prog X.w) X.A (inplaceOp op u w) (λr s₃=>wpAny (model X.prog X.w) X.A (storeName X.env x r) (λ_=>SP X pins D .next) X.xe s₃) X.xe s₂) X.xe s:=by
  refine thn (he pins s σ H _ I h) λw s1 ⟨y,H1,I1,r1,q1⟩=>?_;refine thn (ho pins s1 σ H1 v y u w _ I1 r r1 q1) λz s2 ⟨zv,H2,I2,r2,q2⟩=>?_;exact xo I2 hN hi hx r2 (λs3 I3=>⟨_,H2,I3,q2⟩) hf
 rcases l with⟨hk,hm⟩ |⟨hk,c,hc,hcell⟩
 ·exact wpAny_loadName_local I.ok.kind hk hn hm go
 ·rcases hk with hk|hk
  ·exact wpAny_loadName_cell I.ok.kind hk hc hcell go
  ·rcases hx with k|k
   ·have:X.env.scope.names.lookup x=some .free:=hk;rw[k]at this;cases this
   ·have:X.env.scope.names.lookup x=some .free:=hk;rw[k]at this;cases this
def ipI(f:Int->Int->Int):TIp:=λx y H Q=>∃i j,x=.int i/\y=.int j/\Q (.int (f i j)) H
theorem zjl:PIp X .Add (ipI λi j=>i+j):=by
 intro pins s σ H x y v u Q I r1 r2 h;obtain⟨i,j,e1,e2,q⟩:=h;subst e1;subst e2;obtain⟨t,rfl⟩:=r1;obtain⟨t',rfl⟩:=r2;exact iadd_int ⟨.int _,H,I.tok _,⟨_,rfl⟩,q⟩
theorem zpr:PIp X .Sub (ipI λi j=>i-j):=by
 intro pins s σ H x y v u Q I r1 r2 h;obtain⟨i,j,e1,e2,q⟩:=h;subst e1;subst e2;obtain⟨t,rfl⟩:=r1;obtain⟨t',rfl⟩:=r2;exact isub_int ⟨.int _,H,I.tok _,⟨_,rfl⟩,q⟩
end
section
variable {X:Cx}{pos:Pos}
def zps(c:TT)(tb:TS):TS:=λD σ H=>∃W:Nat->St->Hp->Prop,(∃m,W m σ H)/\∀m σ H,W m σ H ->
 c σ H λb H1=>if b=true then ∃N:St->Hp->Prop,(∀σ' H',N σ' H'->∃m',m' < m/\W m' σ' H')/\tb { D with nx:=N,ct:=N,bk:=D.nx } σ H1 else D.nx σ H1
theorem zjm{c:Expr}{body:List Stmt}{tc:TT}{tb:TS}(hp:PassesOwn (model X.prog X.w) X.A X.env X.xe)(hc:PT X c tc)(hb:PSs X body tb):PS X (.While c body [] pos) (zps tc tb):=by
 intro pins s σ H D I h;obtain⟨W,⟨m0,w0⟩,turn⟩:=h;refine wpAny_While (codeAny_whileLoop (λn s'=>∃σ' H',Inv X pins σ' H' s'/\W n σ' H') ?_ m0 ⟨σ,H,I,w0⟩);rintro n s1 ⟨σ1,H1,I1,w1⟩;refine wpAny_passesOwn hp (thn (hc pins s1 σ1 H1 _ I1 (turn n σ1 H1 w1)) λb s2 ⟨H2,I2,q2⟩=>?_)
 cases b with
 |true=>
  obtain⟨N,hN,q2⟩:=q2;rw[if_pos rfl];refine wpAny_passesOwn hp (thn (hb pins s2 σ1 H2 _ I2 q2) λf s3 q3=>?_)
  cases f with
  |next=>
   obtain⟨σ3,H3,I3,n3⟩:=q3;obtain⟨m',hm,w3⟩:=hN σ3 H3 n3;exact⟨m',hm,σ3,H3,I3,w3⟩
  |cont=>
   obtain⟨σ3,H3,I3,n3⟩:=q3;obtain⟨m',hm,w3⟩:=hN σ3 H3 n3;exact⟨m',hm,σ3,H3,I3,w3⟩
  |brk=>exact q3
  |ret v=>exact q3
 |false=>
  rw[if_neg Bool.false_ne_true];exact wpAny_execs_nil ⟨σ1,H2,I2,q2⟩
end
structure It where
 go:Nat->Hp->Prop
 yld:Nat->Hp->V->Hp->Prop
 stop:Nat->Hp->Prop
def FpOk(X:Cx)(pins:List (Addr×Obj))(H:Hp)(b:Addr):Prop :=
 H b=none/\b≠X.env.locals/\b∉X.fs/\(b∈X.ex\/X.s₀.heap.objs.size<=b)/\(∀x c,X.env.cells.lookup x=some c->c≠b)/\∀p∈X.pn++pins,p.1≠b
theorem Inv.fpOk{X:Cx}{pins:List (Addr×Obj)}{σ:St}{H H':Hp}{s:Shared}{b:Addr}(I:Inv X pins σ H s)(hb:s.heap.objs.size<=b)(hn:H' b=none):FpOk X pins H' b:=by
 refine⟨hn,Nat.ne_of_gt (Nat.lt_of_lt_of_le I.lt hb),I.nofs hb,.inr (Nat.le_trans I.sz hb),λx c e z=>?_,λp hp z=>?_⟩
 ·obtain⟨v,q⟩:=I.cell x c e;exact absurd (Nat.lt_of_lt_of_le q.lt (by rw[z];exact hb)) (Nat.lt_irrefl _)
 ·exact absurd (Nat.lt_of_lt_of_le (Heap.lt_size (I.pin p hp).1) (by rw[z];exact hb)) (Nat.lt_irrefl _)
structure zeh(P:Program)(w:World)(K:PySem.W.Frag)(tg:Expr)(J:It)(fp:List Addr)(it:Addr)(tn:Nat->Heap->Prop):Prop where
 mem:it∈fp
 obj:∀i h,tn i h->∀b∈fp,∃o,h.get? b=some o/\∀v,o.data ≠ .cell v
 keep:∀i h h',tn i h->(∀b∈fp,∀o,h.get? b=some o->h'.get? b=some o)->tn i h'
 item:∀(X:Cx),X.prog=P->X.w=w->X.K=K->X.calm=true->∀(i:Nat) (pins:List (Addr×Obj)) (s:Shared) (σ:St) (H:Hp) (E:Value->Shared->Prop),Inv X pins σ H s->(∀b∈fp,FpOk X pins H b)->tn i s.heap->J.go i H ->
  wpAny (model P w) X.A (pyNext (.ref it)) (λr s1=>∃u,r=some u /\
   wpAny (model P w) X.A (letOwnedTupleGo tg (.ref it) u) (λ_ s2=>∃x H',Inv X pins σ H' s2/\RelV x u/\J.yld i H x H'/\tn (i+1) s2.heap/\∀b∈fp,H' b=none) E s1) E s
 done:∀(X:Cx),X.prog=P->X.w=w->X.K=K->X.calm=true->∀(i:Nat) (pins:List (Addr×Obj)) (s:Shared) (σ:St) (H:Hp) (E:Value->Shared->Prop),Inv X pins σ H s->(∀b∈fp,FpOk X pins H b)->tn i s.heap->J.stop i H ->
  wpAny (model P w) X.A (pyNext (.ref it)) (λr s1=>r=none/\Inv X pins σ H s1) E s
 self:∀(A:Around) (i:Nat) (s:Shared) (Q:Value->Shared->Prop) (E:Value->Shared->Prop),tn i s.heap->Q (.ref it) s->wpAny (model P w) A (pyIter (.ref it)) Q E s
abbrev TI:=St->Hp->(It->Hp->Prop)->Prop
def PIE(X:Cx)(pins:List (Addr×Obj))(σ:St)(tg:Expr)(R:It->Hp->Prop)(itv:Value)(s2:Shared):Prop :=
 ∃(it:Addr) (fp:List Addr) (tn:Nat->Heap->Prop) (J:It) (H':Hp),itv=.ref it/\Inv X pins σ H' s2/\zeh X.prog X.w X.K tg J fp it tn/\tn 0 s2.heap/\(∀b∈fp,FpOk X pins H' b)/\R J H'
def PI(X:Cx)(tg iter:Expr)(wi:TI):Prop :=
 ∀(pins:List (Addr×Obj)) (s:Shared) (σ:St) (H:Hp) (R:It->Hp->Prop),Inv X pins σ H s->wi σ H R ->
  wpAny (model X.prog X.w) X.A (eval iter X.env) (λv s1=>wpAny (model X.prog X.w) X.A (pyIter v) (PIE X pins σ tg R) X.xe s1) X.xe s
theorem zhc{M:Model}{A:Around}{E:Value->Shared->Prop}{s:Shared}{tg:Expr}{it:Addr}{u:Value}{o:Obj}{n:String}{vs:Array Value}{Q:Unit->Shared->Prop}(ho:s.heap.get? it=some o)(hc:o.cls=.type n)(hd:o.data=.fields vs)
  (hn : ["enumerate", "zip", "dict_itemiterator", "dict_reverseitemiterator", "odict_iterator", "itertools.zip_longest", "itertools.pairwise"].contains n=false) (hQ:Q () s):wpAny M A (letOwnedTupleGo tg (.ref it) u) Q E s:=by
 unfold letOwnedTupleGo
 cases tg <;> first
  |exact wpAny_pure hQ
  |(cases u <;> first
    |exact wpAny_pure hQ
    |(refine wpAny_bind (wpAny_load ho ?_);rw[hc,hd];show wpAny M A (if (["enumerate", "zip", "dict_itemiterator", "dict_reverseitemiterator", "odict_iterator", "itertools.zip_longest", "itertools.pairwise"].contains n && vs[0]? == some (rawInt _))=true then _ else _) Q E s;rw[if_neg (by intro h;rw[hn,Bool.false_and]at h;cases h)];exact wpAny_pure hQ))
def Itl(K:PySem.W.Frag)(a:Addr):It :=
 ⟨λi H=>∃xs x,SqL K H a xs/\xs[i]?=some x,λi H x H'=>H'=H/\∀xs,SqL K H a xs->xs[i]?=some x,λi H=>∃xs,SqL K H a xs/\xs.length<=i⟩
def Itt(K:PySem.W.Frag)(a:Addr):It :=
 ⟨λi H=>∃xs x,SqT K H a xs/\xs[i]?=some x,λi H x H'=>H'=H/\∀xs,SqT K H a xs->xs[i]?=some x,λi H=>∃xs,SqT K H a xs/\xs.length<=i⟩
def Itr(lo:Int)(n:Nat):It:=⟨λi _=>i<n,λi H x H'=>H'=H/\x=.int (lo+i),λi _=>n<=i⟩
theorem zia{P:Program}{w:World}{K:PySem.W.Frag}{tg:Expr}(a it:Addr):zeh P w K tg (Itl K a) [it] it (λi h=>h.IsListIter it a i) where
 mem:=by simp
 obj:=λi h st b hb=>by
  have e:b=it:=by simpa using hb
  subst e;obtain⟨o,e,c,d⟩:=st;exact⟨o,e,λv z=>by rw[d]at z;cases z⟩
 keep:=λi h h' st k=>st.at λo e=>k it (by simp) o e
 item:=by
  intro X hP hw hK hc i pins s σ H E I hf st hg;subst hP hw hK;obtain⟨xs,x,hq,hx⟩:=hg;obtain⟨its,rv,p,hz⟩:=I.list hq;obtain⟨u,hu,ru⟩:=rv.get hx;obtain⟨f0,f1,f2,f3,f4,f5⟩:=hf it (by simp);refine wpAny_pyNext_list_item st p.isList (x:=u) (by simpa using hu) λh' st' sb=>?_;have I1:Inv X pins σ H { s with heap:=h' }:=I.turned (t':=s.toks) (λb o hb e=>(sb.2 b hb).trans e) f0 f1 f3 f4 f5;obtain⟨o,e,c,d⟩:=id st';exact⟨u,rfl,zhc (s:={ s with heap:=h' }) e c d (by decide) ⟨x,H,I1,ru,⟨rfl,λys hy=>by rw[I.list_inj hy hq];exact hx⟩,st',λb hb=>(hf b hb).1⟩⟩
 done:=by
  intro X hP hw hK hc i pins s σ H E I hf st hg;subst hP hw hK;obtain⟨xs,hq,hx⟩:=hg;obtain⟨its,rv,p,hz⟩:=I.list hq;obtain⟨f0,f1,f2,f3,f4,f5⟩:=hf it (by simp);have hl:=rv.length;exact wpAny_pyNext_list_end (I.ok.hd hc) st p.isList (by simp;omega) λh' eb=>⟨rfl,I.turned (t':=s.toks) (λb o hb e=>eb b o hb e) f0 f1 f3 f4 f5⟩
 self:=λ_ _ _ _ _ st h=>wpAny_pyIter_listiter st h
theorem zfx{P:Program}{w:World}{K:PySem.W.Frag}{tg:Expr}(a it:Addr):zeh P w K tg (Itt K a) [it] it (λi h=>h.IsTupleIter it a i) where
 mem:=by simp
 obj:=λi h st b hb=>by
  have e:b=it:=by simpa using hb
  subst e;obtain⟨o,e,c,d⟩:=st;exact⟨o,e,λv z=>by rw[d]at z;cases z⟩
 keep:=λi h h' st k=>st.at λo e=>k it (by simp) o e
 item:=by
  intro X hP hw hK hc i pins s σ H E I hf st hg;subst hP hw hK;obtain⟨xs,x,hq,hx⟩:=hg;obtain⟨its,rv,p,hz⟩:=I.tuple hq;obtain⟨u,hu,ru⟩:=rv.get hx;obtain⟨f0,f1,f2,f3,f4,f5⟩:=hf it (by simp);refine wpAny_pyNext_tuple_item st (show s.heap.IsTuple a its.toArray from p) (x:=u) (by simpa using hu) λh' st' sb=>?_;have I1:Inv X pins σ H { s with heap:=h' }:=I.turned (t':=s.toks) (λb o hb e=>(sb.2 b hb).trans e) f0 f1 f3 f4 f5;obtain⟨o,e,c,d⟩:=id st';exact⟨u,rfl,zhc (s:={ s with heap:=h' }) e c d (by decide) ⟨x,H,I1,ru,⟨rfl,λys hy=>by rw[I.tuple_inj hy hq];exact hx⟩,st',λb hb=>(hf b hb).1⟩⟩
 done:=by
  intro X hP hw hK hc i pins s σ H E I hf st hg;subst hP hw hK;obtain⟨xs,hq,hx⟩:=hg;obtain⟨its,rv,p,hz⟩:=I.tuple hq;obtain⟨f0,f1,f2,f3,f4,f5⟩:=hf it (by simp);have hl:=rv.length;exact wpAny_pyNext_tuple_end (I.ok.hd hc) st (show s.heap.IsTuple a its.toArray from p) (by simp;omega) λh' eb=>⟨rfl,I.turned (t':=s.toks) (λb o hb e=>eb b o hb e) f0 f1 f3 f4 f5⟩
 self:=λ_ _ _ _ _ st h=>wpAny_pyIter_tupleiter st h
theorem zfy{P:Program}{w:World}{K:PySem.W.Frag}{tg:Expr}(it:Addr)(lo:Int)(n:Nat):zeh P w K tg (Itr lo n) [it] it (λi h=>IsRangeIter h it (lo+(i:Nat) * 1) ((n:Int)-(i:Nat)) 1) where
 mem:=by simp
 obj:=λi h st b hb=>by
  have e:b=it:=by simpa using hb
  subst e;exact⟨_,st,λv z=>by
   have z':Data.fields _=Data.cell v:=z
   cases z'⟩
 keep:=λi h h' st k=>k it (by simp) _ st
 item:=by
  intro X hP hw hK hc i pins s σ H E I hf st hg;subst hP hw hK;obtain⟨f0,f1,f2,f3,f4,f5⟩:=hf it (by simp);have W:=Walks.range (prog:=X.prog) (w:=X.w) (I.ok.hd hc) it lo 1 n;refine W.item i s _ _ hg st λv h' tk hv st' kk=>?_;obtain⟨t,rfl⟩:=hv;have I1:Inv X pins σ H { s with heap:=h',toks:=tk }:=I.turned (λb o hb e=>kk b o (by simpa using hb) e) f0 f1 f3 f4 f5;refine⟨_,rfl,zhc (s:={ s with heap:=h',toks:=tk }) (n := "range_iterator") st' rfl rfl (by decide) ⟨.int (lo+i),H,I1,⟨t,?_⟩,⟨rfl,rfl⟩,st',λb hb=>(hf b hb).1⟩⟩;rw[Int.mul_one]
 done:=by
  intro X hP hw hK hc i pins s σ H E I hf st hg;subst hP hw hK;obtain⟨f0,f1,f2,f3,f4,f5⟩:=hf it (by simp);exact wpAny_pyNext_range_end (I.ok.hd hc) st (by have:n<=i:=hg;omega) λh' eb=>⟨rfl,I.turned (t':=s.toks) (λb o hb e=>eb b o hb e) f0 f1 f3 f4 f5⟩
 self:=λ_ _ _ _ _ st h=>wpAny_pyIter_rangeiter st h
section
variable {X:Cx}{tg:Expr}
theorem zjn{pins:List (Addr×Obj)}{σ:St}{H:Hp}{s:Shared}{R:It->Hp->Prop}{E:Value->Shared->Prop}{lo hi:Int}{t u v:Tok}{tk:Nat}(I:Inv X pins σ H s)(h1 : -(2 ^ 62)<=lo)(h2:lo<2 ^ 62)(h3 : -(2 ^ 62)<=hi)(h4:hi<2 ^ 62)
  (q:R (Itr lo (hi-lo).toNat) H):wpAny (model X.prog X.w) X.A (pyIter (.ref s.heap.objs.size)) (PIE X pins σ tg R) E { s with heap:=s.heap.push { cls:=.type "range",data:=.fields #[.int lo t,.int hi u,.int 1 v] },toks:=tk }:=by
 refine wpAny_pyIter_range (IsRange.new ..) (small_one h1 h2 h3 h4) ?_;have I1:Inv X pins σ H { s with heap:=s.heap.push { cls:=.type "range",data:=.fields #[.int lo t,.int hi u,.int 1 v] },toks:=tk }:=I.kept λb o e=>Heap.get?_push_of_some _ e;refine⟨(s.heap.push { cls:=.type "range",data:=.fields #[.int lo t,.int hi u,.int 1 v] }).objs.size,[(s.heap.push { cls:=.type "range",data:=.fields #[.int lo t,.int hi u,.int 1 v] }).objs.size],_,_,H,rfl,
  I1.kept (t':=tk) λb o e=>Heap.get?_push_of_some _ e,zfy _ lo (hi-lo).toNat,?_,λb hb=>?_,q⟩
 ·have e1:lo+((0:Nat):Int) * 1=lo:=by simp
  have e2:(((hi-lo).toNat:Nat):Int)-((0:Nat):Int)=Builtin.Range.rangeSize lo hi 1:=by rw[rangeSize_one];split <;> omega
  show IsRangeIter _ _ (lo+((0:Nat):Int) * 1) ((((hi-lo).toNat:Nat):Int)-((0:Nat):Int)) 1;rw[e1,e2];exact Heap.get?_push_size _ rfl
 ·have e:b=(s.heap.push { cls:=.type "range",data:=.fields #[.int lo t,.int hi u,.int 1 v] }).objs.size:=by simpa using hb
  subst e;exact I1.fpOk (Nat.le_refl _) (I1.hok.fresh (Nat.le_refl _))
def zso(ta:TA):TI:=λσ H R=>ta σ H λvs H1=>∃j:Int,vs = [.int j]/\-(2 ^ 62)<=j/\j<2 ^ 62/\R (Itr 0 j.toNat) H1
theorem zib{a:Expr}{ta:TA}{p pos:Pos}(hg:Gl X "range")(hm:X.mg "range" = none)(ha:PA X [a] ta)(hs:starEach [a] X.env = [(false,eval a X.env)]:=by rfl):PI X tg (.Call (.Name "range" p) [a] [] pos) (zso ta):=by
 intro pins s σ H R I h;refine Call_ (jz I hg hm boot_range (PyProof.Rows.callWith_type1 (thn (ha pos pins s σ H _ I h) λus s1 ⟨vs,H1,I1,r1,q1⟩=>?_) hs rfl));obtain⟨j,e,q1,q2,q⟩:=q1;subst e
 cases r1 with
 |cons r rr=>
  cases rr;obtain⟨t,rfl⟩:=r;exact call_range_1 (zjn I1 (by omega) (by omega) q1 q2 (by simpa using q))
def zud(wi:TI)(g:TG)(tb:TS):TS:=λD σ H=>wi σ H λJ H1=>∃W:Nat->Nat->St->Hp->Prop,(∃m,W 0 m σ H1)/\∀i m σ H,W i m σ H ->
 (J.stop i H/\D.nx σ H)\/(J.go i H/\∃N:St->Hp->Prop,(∀σ' H',N σ' H'->∃m',m' < m/\W (i+1) m' σ' H')/\∀x H',J.yld i H x H'->g x σ H' λσ2 H2=>tb { D with nx:=N,ct:=N,bk:=D.nx } σ2 H2)
def za9(fp:List Addr)(h:Heap):List (Addr×Obj):=fp.filterMap λb=>(h.get? b).map λo=>(b,o)
theorem va{fp:List Addr}{h:Heap}{b:Addr}{o:Obj}(hb:b∈fp)(e:h.get? b=some o):(b,o)∈za9 fp h:=List.mem_filterMap.mpr ⟨b,hb,by rw[e];rfl⟩
theorem zic{fp:List Addr}{h:Heap}{p:Addr×Obj}(hp:p∈za9 fp h):p.1∈fp/\h.get? p.1=some p.2:=by
 obtain⟨b,hb,e⟩:=List.mem_filterMap.mp hp
 cases q:h.get? b with
 |none=>rw[q]at e;cases e
 |some o=>
  rw[q]at e;have e':(b,o)=p:=Option.some.inj e;subst e';exact⟨hb,q⟩
theorem Inv.pinned{pins:List (Addr×Obj)}{σ:St}{H:Hp}{s:Shared}{fp:List Addr}(I:Inv X pins σ H s)(hf:∀b∈fp,FpOk X pins H b)(ho:∀b∈fp,∃o,s.heap.get? b=some o/\∀v,o.data ≠ .cell v):Inv X (pins++za9 fp s.heap) σ H s :=
 I.pins_of λp hp=>(List.mem_append.mp hp).elim (λz=>I.pin p (List.mem_append_right _ z)) λz=>by
  obtain⟨hb,e⟩:=zic z;obtain⟨f0,f1,f2,_⟩:=hf p.1 hb;obtain⟨o,e',d⟩:=ho p.1 hb;rw[e]at e';cases e';exact⟨e,f0,f1,f2,d⟩
theorem Inv.unpinned{pins pl:List (Addr×Obj)}{σ:St}{H:Hp}{s:Shared}(I:Inv X (pins++pl) σ H s):Inv X pins σ H s:=I.pins_of λp hp=>I.pin p (List.mem_append_right _ (List.mem_append_left _ hp))
theorem zpt{iter:Expr}{body:List Stmt}{wi:TI}{g:TG}{tb:TS}{pos:Pos}(hp:PassesOwn (model X.prog X.w) X.A X.env X.xe)(hc:X.calm=true)(hi:PI X tg iter wi)(hg:PG X tg g)(hb:PSs X body tb)
  (hs:∀x,foldedSetIterable iter X.env x=pure x:=by intro _;rfl):PS X (.For tg iter body [] pos) (zud wi g tb):=by
 intro pins s σ H D I h;refine wpAny_For (thn (hi pins s σ H _ I h) λv s1 h1=>thn h1 λitv s2 h2=>?_) hs;obtain⟨it,fp,tn,J,H2,e,I2,T,st2,f2,W,⟨m0,w0⟩,turn⟩:=h2;subst e
 -- what stays true of the iterator's objects through the loop
 have stat:∀{H':Hp},(∀b∈fp,H' b=none)->∀b∈fp,FpOk X pins H' b:=λhn b hb=>⟨hn b hb,(f2 b hb).2⟩
 refine codeAny_forLoop_any (λn s'=>∃i σ' H',Inv X pins σ' H' s'/\tn i s'.heap/\(∀b∈fp,H' b=none)/\W i n σ' H') ?_ m0 ⟨0,σ,H2,I2,st2,λb hb=>(f2 b hb).1,w0⟩;rintro n s3 ⟨i,σ3,H3,I3,st3,fr3,w3⟩;rcases turn i n σ3 H3 w3 with⟨stop,qn⟩ |⟨go,N,hN,step⟩
 ·refine wpAny_passesOwn hp (thn (T.done X rfl rfl rfl hc i pins s3 σ3 H3 X.xe I3 (stat fr3) st3 stop) λr s4 ⟨hr,I4⟩=>?_);subst hr;exact wpAny_execs_nil ⟨σ3,H3,I4,qn⟩
 ·refine wpAny_passesOwn hp (thn (T.item X rfl rfl rfl hc i pins s3 σ3 H3 X.xe I3 (stat fr3) st3 go) λr s4 ⟨u,hr,h4⟩=>?_);subst hr;refine wpAny_passesOwn hp (thn h4 λ_ s5 ⟨x,H5,I5,r5,y5,st5,fr5⟩=>?_);have I5':=I5.pinned (stat fr5) (T.obj _ _ st5);refine wpAny_passesOwn hp (thn (hg _ s5 σ3 H5 x u _ I5' r5 (step x H5 y5)) λ_ s6 ⟨σ6,H6,I6,q6⟩=>?_);refine wpAny_passesOwn hp (thn (hb _ s6 σ6 H6 _ I6 q6) λf s7 q7=>?_)
  have again:∀{σ7:St}{H7:Hp},Inv X (pins++za9 fp s5.heap) σ7 H7 s7->N σ7 H7->∃m,m<n/\∃i σ' H',Inv X pins σ' H' s7/\tn i s7.heap/\(∀b∈fp,H' b=none)/\W i m σ' H':=λ{σ7 H7} I7 n7=>by
   obtain⟨m',hm,w7⟩:=hN σ7 H7 n7;refine⟨m',hm,i+1,σ7,H7,I7.unpinned,T.keep _ _ _ st5 λb hb o e=>(I7.pin (b,o) (List.mem_append_right _ (List.mem_append_right _ (va hb e)))).1,λb hb=>?_,w7⟩;obtain⟨o,e,d⟩:=T.obj _ _ st5 b hb;exact(I7.pin (b,o) (List.mem_append_right _ (List.mem_append_right _ (va hb e)))).2.1
  cases f with
  |next=>obtain⟨σ7,H7,I7,n7⟩:=q7;exact again I7 n7
  |cont=>obtain⟨σ7,H7,I7,n7⟩:=q7;exact again I7 n7
  |brk=>obtain⟨σ7,H7,I7,q7⟩:=q7;exact⟨σ7,H7,I7.unpinned,q7⟩
  |ret v=>obtain⟨x7,σ7,H7,I7,r7,q7⟩:=q7;exact⟨x7,σ7,H7,I7.unpinned,r7,q7⟩
end
abbrev R2:=V->V->Hp->VK->Prop
def OpR(X:Cx)(f:Value->Value->Sem Value)(r:R2):Prop :=
 ∀(pins:List (Addr×Obj)) (s:Shared) (σ:St) (H:Hp) (x y:V) (v u:Value) (Q:VK),Inv X pins σ H s->RelV x v->RelV y u->r x y H Q ->
  wpAny (model X.prog X.w) X.A (f v u) (EP X pins σ Q) X.xe s
def UnR(X:Cx)(f:Value->Sem Value)(r:V->Hp->VK->Prop):Prop :=
 ∀(pins:List (Addr×Obj)) (s:Shared) (σ:St) (H:Hp) (x:V) (v:Value) (Q:VK),Inv X pins σ H s->RelV x v->r x H Q ->
  wpAny (model X.prog X.w) X.A (f v) (EP X pins σ Q) X.xe s
def wd(X:Cx)(f:Value)(r:List V->Hp->VK->Prop):Prop :=
 ∀(pins:List (Addr×Obj)) (s:Shared) (σ:St) (H:Hp) (xs:List V) (us:List Value) (Q:VK),Inv X pins σ H s->Vals xs us->r xs H Q ->
  wpAny (model X.prog X.w) X.A (call f us) (EP X pins σ Q) X.xe s
def zue(X:Cx)(r:V->Hp->(Bool->Hp->Prop)->Prop):Prop :=
 ∀(pins:List (Addr×Obj)) (s:Shared) (σ:St) (H:Hp) (x:V) (v:Value) (Q:Bool->Hp->Prop),Inv X pins σ H s->RelV x v->r x H Q ->
  wpAny (model X.prog X.w) X.A (truthy v) (TP X pins σ Q) X.xe s
def tOp(r:R2)(ta tb:TE):TE:=λσ H Q=>ta σ H λx H1=>tb σ H1 λy H2=>r x y H2 Q
def tUn(r:V->Hp->VK->Prop)(ta:TE):TE:=λσ H Q=>ta σ H λx H1=>r x H1 Q
def rI(C:Int->Int->Prop)(g:Int->Int->V):R2:=λx y H Q=>∃i j,x=.int i/\y=.int j/\C i j/\Q (g i j) H
def rI0(g:Int->Int->V):R2:=λx y H Q=>∃i j,x=.int i/\y=.int j/\Q (g i j) H
def rU(g:Int->V):V->Hp->VK->Prop:=λx H Q=>∃i,x=.int i/\Q (g i) H
section
variable {X:Cx}{a b c:Expr}{ta tb tc:TE}{pos:Pos}
theorem zsp(ha:PE X a ta)(hb:PE X b tb){pins:List (Addr×Obj)}{s:Shared}{σ:St}{H:Hp}{R:V->V->Hp->Prop}(I:Inv X pins σ H s)
  (h:ta σ H λx H1=>tb σ H1 λy H2=>R x y H2) {Q:Value->Shared->Prop}{f:Value->Value->Sem Value}
  (hf:∀v u s2 x y H2,Inv X pins σ H2 s2->RelV x v->RelV y u->R x y H2->wpAny (model X.prog X.w) X.A (f v u) Q X.xe s2) :
  wpAny (model X.prog X.w) X.A (eval a X.env) (λv s₁=>wpAny (model X.prog X.w) X.A (eval b X.env) (λu s₂=>wpAny (model X.prog X.w) X.A (f v u) Q X.xe s₂) X.xe s₁) X.xe s:=by
 refine thn (ha pins s σ H _ I h) λv s1 ⟨x,H1,I1,r1,q1⟩=>?_;refine thn (hb pins s1 σ H1 _ I1 q1) λu s2 ⟨y,H2,I2,r2,q2⟩=>?_;exact hf v u s2 x y H2 I2 r1 r2 q2
theorem zei{op:Operator}{r:R2}(ho:OpR X (binaryOp op) r)(ha:PE X a ta)(hb:PE X b tb):PE X (.BinOp a op b pos) (tOp r ta tb):=by
 intro pins s σ H Q I h;exact wpAny_BinOp (zsp ha hb I h λv u s2 x y H2 I2 rx ry q=>ho pins s2 σ H2 x y v u Q I2 rx ry q)
theorem zsq{op:UnaryOp}{r:V->Hp->VK->Prop}(ho:UnR X (unaryOp op) r)(ha:PE X a ta):PE X (.UnaryOp op a pos) (tUn r ta):=by
 intro pins s σ H Q I h;exact UnaryOp_ (thn (ha pins s σ H _ I h) λv s1 ⟨x,H1,I1,r1,q1⟩=>ho pins s1 σ H1 x v Q I1 r1 q1)
theorem opI{f:Value->Value->Sem Value}{C:Int->Int->Prop}{g:Int->Int->Int}
  (rule:∀(i j:Int) (t u:Tok) (s:Shared) (Q:Value->Shared->Prop) (E:Value->Shared->Prop),C i j->Q (.int (g i j) s.toks) { s with toks:=s.toks+1 }->wpAny (model X.prog X.w) X.A (f (.int i t) (.int j u)) Q E s) :
  OpR X f (rI C λi j=>.int (g i j)):=by
 intro pins s σ H x y v u Q I rx ry h;obtain⟨i,j,rfl,rfl,hc,q⟩:=h;obtain⟨t,rfl⟩:=rx;obtain⟨t',rfl⟩:=ry;exact rule i j t t' s _ _ hc ⟨.int (g i j),H,I.tok _,⟨_,rfl⟩,q⟩
theorem zsr{f:Value->Value->Sem Value}{g:Int->Int->Int}
  (rule:∀(i j:Int) (t u:Tok) (s:Shared) (Q:Value->Shared->Prop) (E:Value->Shared->Prop),Q (.int (g i j) s.toks) { s with toks:=s.toks+1 }->wpAny (model X.prog X.w) X.A (f (.int i t) (.int j u)) Q E s) :
  OpR X f (rI0 λi j=>.int (g i j)):=by
 intro pins s σ H x y v u Q I rx ry h;obtain⟨i,j,rfl,rfl,q⟩:=h;obtain⟨t,rfl⟩:=rx;obtain⟨t',rfl⟩:=ry;exact rule i j t t' s _ _ ⟨.int (g i j),H,I.tok _,⟨_,rfl⟩,q⟩
theorem zmo{f:Value->Value->Sem Value}{g:Int->Int->Bool}
  (rule:∀(i j:Int) (t u:Tok) (s:Shared) (Q:Value->Shared->Prop) (E:Value->Shared->Prop),Q (.bool (g i j)) s->wpAny (model X.prog X.w) X.A (f (.int i t) (.int j u)) Q E s) :
  OpR X f (rI0 λi j=>.bl (g i j)):=by
 intro pins s σ H x y v u Q I rx ry h;obtain⟨i,j,rfl,rfl,q⟩:=h;obtain⟨t,rfl⟩:=rx;obtain⟨t',rfl⟩:=ry;exact rule i j t t' s _ _ ⟨.bl (g i j),H,I,rfl,q⟩
def zss(i j:Int):Prop:=0<=j/\j<=1000000/\i.natAbs<2 ^ 64
def CMul(i j:Int):Prop:=(-(2 ^ 64)<i/\i<2 ^ 64)\/(-(2 ^ 64)<j/\j<2 ^ 64)
theorem CMul.ok{i j:Int}(h:CMul i j):IntMulOk i j:=by
 rcases h with⟨h1,h2⟩ |⟨h1,h2⟩
 ·exact .of_left (intBits_le_64 h1 h2)
 ·exact .of_right (intBits_le_64 h1 h2)
theorem zjo:OpR X (binaryOp .Add) (rI0 λi j=>.int (i+j)):=zsr λ_ _ _ _ _ _ _ q=>add_int q
theorem zpu:OpR X (binaryOp .Sub) (rI0 λi j=>.int (i-j)):=zsr λ_ _ _ _ _ _ _ q=>sub_int q
theorem zpv:OpR X (binaryOp .Mult) (rI CMul λi j=>.int (i * j)):=opI λ_ _ _ _ _ _ _ hc q=>mul_int q hc.ok
theorem zfz:OpR X (binaryOp .Mod) (rI (λ_ j=>0<j) λi j=>.int (i % j)):=opI λi j _ _ _ _ _ hc q=>by
 have h1:(0:Int)<j:=hc;exact mod_int' (by omega) (by rw[Int.fmod_eq_emod_of_nonneg i (by omega)];exact q)
theorem zpw:OpR X (binaryOp .Pow) (rI zss λi j=>.int (i ^ j.toNat)):=opI λ_ _ _ _ _ _ _ hc q=>pow_int_small hc.1 hc.2.1 hc.2.2 q
theorem unI{f:Value->Sem Value}{g:Int->Int}
  (rule:∀(i:Int) (t:Tok) (s:Shared) (Q:Value->Shared->Prop) (E:Value->Shared->Prop),Q (.int (g i) s.toks) { s with toks:=s.toks+1 }->wpAny (model X.prog X.w) X.A (f (.int i t)) Q E s) :
  UnR X f (rU λi=>.int (g i)):=by
 intro pins s σ H x v Q I rx h;obtain⟨i,rfl,q⟩:=h;obtain⟨t,rfl⟩:=rx;exact rule i t s _ _ ⟨.int (g i),H,I.tok _,⟨_,rfl⟩,q⟩
theorem zpx:UnR X (unaryOp .USub) (rU λi=>.int (-i)):=unI λ_ _ _ _ _ q=>neg_int q
end
def zpy:V->V->Bool
 |.non,.non=>true|.non,.int _=>true|.int _,.non=>true|.non,.bl _=>true|.bl _,.non=>true|.non,.str _=>true|.str _,.non=>true
 |.int _,.int _=>true|.bl _,.bl _=>true|.str _,.str _=>true|.byt _,.byt _=>true
 |.int _,.str _=>true|.str _,.int _=>true|.bl _,.str _=>true|.str _,.bl _=>true
 |_,_=>false
def rEq:R2:=λx y H Q=>zpy x y=true/\Q (.bl (decide (x=y))) H
def rNe:R2:=λx y H Q=>zpy x y=true/\Q (.bl (!decide (x=y))) H
theorem zhd{i j:Int}:decide (V.int i=V.int j)=(i == j):=by
 rw[Bool.eq_iff_iff];simp
theorem zjp{i j:Bool}:decide (V.bl i=V.bl j)=(i == j):=by
 rw[Bool.eq_iff_iff];simp
theorem zhe{i j:Str}:decide (V.str i=V.str j)=(i == j):=by
 rw[Bool.eq_iff_iff];simp
theorem zhf{i j:Array UInt8}:decide (V.byt i=V.byt j)=(i.toList == j.toList):=by
 rw[Bool.eq_iff_iff]
 cases i
 cases j;simp
section
variable {X:Cx}{a b c:Expr}{ta tb tc:TE}{pos:Pos}
theorem ye{pins:List (Addr×Obj)}{σ:St}{H:Hp}{s:Shared}{Q:VK}{k k':Bool}(I:Inv X pins σ H s)(q:Q (.bl k) H)(e:k=k'):EP X pins σ Q (.bool k') s:=by
 subst e;exact⟨.bl k,H,I,rfl,q⟩
theorem zot:OpR X (compareOp .Eq) rEq:=by
 intro pins s σ H x y v u Q I rx ry h;obtain⟨hs,q⟩:=h
 cases x with
 |non=>
  cases rx
  cases y with
  |non=>cases ry;exact PySem.EqNone.eq_none_none (ye I q (by simp))
  |bl j=>cases ry;exact PySem.EqNone.eq_none_bool (ye I q (by simp))
  |int j=>obtain⟨t',rfl⟩:=ry;exact PySem.EqNone.eq_none_int (ye I q (by simp))
  |str j=>obtain⟨t',rfl⟩:=ry;exact PySem.EqNone.eq_none_str (ye I q (by simp))
  |_=>exact absurd (show false=true from hs) Bool.false_ne_true
 |bl i=>
  cases rx
  cases y with
  |non=>cases ry;exact PySem.EqNone.eq_bool_none (ye I q (by simp))
  |bl j=>cases ry;exact eq_bool (ye I q zjp)
  |str j=>obtain⟨t',rfl⟩:=ry;exact PySem.EqMixed.eq_bool_str (ye I q (by simp))
  |_=>exact absurd (show false=true from hs) Bool.false_ne_true
 |int i=>
  obtain⟨t,rfl⟩:=rx
  cases y with
  |non=>cases ry;exact PySem.EqNone.eq_int_none (ye I q (by simp))
  |int j=>obtain⟨t',rfl⟩:=ry;exact eq_int (ye I q zhd)
  |str j=>obtain⟨t',rfl⟩:=ry;exact PySem.EqMixed.eq_int_str (ye I q (by simp))
  |_=>exact absurd (show false=true from hs) Bool.false_ne_true
 |str i=>
  obtain⟨t,rfl⟩:=rx
  cases y with
  |non=>cases ry;exact PySem.EqNone.eq_str_none (ye I q (by simp))
  |bl j=>cases ry;exact PySem.EqMixed.eq_str_bool (ye I q (by simp))
  |int j=>obtain⟨t',rfl⟩:=ry;exact PySem.EqMixed.eq_str_int (ye I q (by simp))
  |str j=>obtain⟨t',rfl⟩:=ry;exact eq_str (ye I q zhe)
  |_=>exact absurd (show false=true from hs) Bool.false_ne_true
 |byt i=>
  obtain⟨t,rfl⟩:=rx
  cases y with
  |byt j=>obtain⟨t',rfl⟩:=ry;exact PySem.W.eq_bytes (ye I q zhf)
  |_=>exact absurd (show false=true from hs) Bool.false_ne_true
 |_=>cases y <;> exact absurd (show false=true from hs) Bool.false_ne_true
theorem zst:OpR X (compareOp .NotEq) rNe:=by
 intro pins s σ H x y v u Q I rx ry h;obtain⟨hs,q⟩:=h
 cases x with
 |non=>
  cases rx
  cases y with
  |non=>cases ry;exact PySem.EqNone.ne_none_none (ye I q (by simp))
  |bl j=>cases ry;exact PySem.EqNone.ne_none_bool (ye I q (by simp))
  |int j=>obtain⟨t',rfl⟩:=ry;exact PySem.EqNone.ne_none_int (ye I q (by simp))
  |str j=>obtain⟨t',rfl⟩:=ry;exact PySem.EqNone.ne_none_str (ye I q (by simp))
  |_=>exact absurd (show false=true from hs) Bool.false_ne_true
 |bl i=>
  cases rx
  cases y with
  |non=>cases ry;exact PySem.EqNone.ne_bool_none (ye I q (by simp))
  |bl j=>cases ry;exact ne_bool (ye I q (congrArg not zjp))
  |str j=>obtain⟨t',rfl⟩:=ry;exact PySem.EqMixed.ne_bool_str (ye I q (by simp))
  |_=>exact absurd (show false=true from hs) Bool.false_ne_true
 |int i=>
  obtain⟨t,rfl⟩:=rx
  cases y with
  |non=>cases ry;exact PySem.EqNone.ne_int_none (ye I q (by simp))
  |int j=>obtain⟨t',rfl⟩:=ry;exact ne_int (ye I q (congrArg not zhd))
  |str j=>obtain⟨t',rfl⟩:=ry;exact PySem.EqMixed.ne_int_str (ye I q (by simp))
  |_=>exact absurd (show false=true from hs) Bool.false_ne_true
 |str i=>
  obtain⟨t,rfl⟩:=rx
  cases y with
  |non=>cases ry;exact PySem.EqNone.ne_str_none (ye I q (by simp))
  |bl j=>cases ry;exact PySem.EqMixed.ne_str_bool (ye I q (by simp))
  |int j=>obtain⟨t',rfl⟩:=ry;exact PySem.EqMixed.ne_str_int (ye I q (by simp))
  |str j=>obtain⟨t',rfl⟩:=ry;exact ne_str (ye I q (congrArg not zhe))
  |_=>exact absurd (show false=true from hs) Bool.false_ne_true
 |byt i=>
  obtain⟨t,rfl⟩:=rx
  cases y with
  |byt j=>obtain⟨t',rfl⟩:=ry;exact PySem.W.ne_bytes (ye I q (congrArg not zhf))
  |_=>exact absurd (show false=true from hs) Bool.false_ne_true
 |_=>cases y <;> exact absurd (show false=true from hs) Bool.false_ne_true
theorem zsu:OpR X (compareOp .Lt) (rI0 λi j=>.bl (decide (i<j))):=zmo λ_ _ _ _ _ _ _ q=>lt_int q
theorem zsv:OpR X (compareOp .LtE) (rI0 λi j=>.bl (decide (i<=j))):=zmo λ_ _ _ _ _ _ _ q=>le_int q
theorem zou:OpR X (compareOp .Gt) (rI0 λi j=>.bl (decide (j<i))):=zmo λ_ _ _ _ _ _ _ q=>gt_int q
theorem zsw:OpR X (compareOp .GtE) (rI0 λi j=>.bl (decide (j<=i))):=zmo λ_ _ _ _ _ _ _ q=>ge_int q
theorem zpz:OpR X (compareOp .Is) (λx y H Q=>y=.non/\Q (.bl (decide (x=.non))) H):=by
 intro pins s σ H x y v u Q I rx ry h;obtain⟨rfl,q⟩:=h
 cases ry;refine is_none_gen (ye I q ?_)
 cases x <;> first
  |(cases rx;rfl)
  |(obtain⟨t,rfl⟩:=rx;rfl)
theorem zmp:OpR X (compareOp .IsNot) (λx y H Q=>y=.non/\Q (.bl (!decide (x=.non))) H):=by
 intro pins s σ H x y v u Q I rx ry h;obtain⟨rfl,q⟩:=h
 cases ry;refine isnot_none_gen (ye I q ?_)
 cases x <;> first
  |(cases rx;rfl)
  |(obtain⟨t,rfl⟩:=rx;rfl)
theorem zx(b:Expr){op:CmpOp}(h:op ≠ .In:=by decide)(h2:op ≠ .NotIn:=by decide):behindInMarks op b=false:=by
 have e1:(op == CmpOp.In)=false:=by cases op <;> first|rfl|exact absurd rfl h
 have e2:(op == CmpOp.NotIn)=false:=by cases op <;> first|rfl|exact absurd rfl h2
 cases b <;> simp[behindInMarks,e1,e2]
def zsx(t:TE):TT:=λσ H Q=>t σ H λx H'=>∃k,x=.bl k/\Q k H'
theorem zhg{op:CmpOp}{r:R2}(ho:OpR X (compareOp op) r)(ha:PE X a ta)(hb:PE X b tb)(hm:behindInMarks op b=false):PT X (.Compare a [op] [b] pos) (zsx (tOp r ta tb)):=by
 intro pins s σ H Q I h;refine wpAny_isTrue_Compare1 (thn (ha pins s σ H _ I h) λv s1 ⟨x,H1,I1,r1,q1⟩=>thn (hb pins s1 σ H1 _ I1 q1) λu s2 ⟨y,H2,I2,r2,q2⟩=>
  thn (ho pins s2 σ H2 x y v u _ I2 r1 r2 q2) λc s3 ⟨z,H3,I3,r3,k,e,q3⟩=>?_) hm
 subst e
 cases r3;exact wpAny_truthy_bool ⟨H3,I3,q3⟩
def zp0(K:PySem.W.Frag)(x:V)(H:Hp)(k:Bool):Prop :=
 match x with
 |.non=>k=false
 |.bl b=>k=b
 |.int i=>k=(i != 0)
 |.str y=>y.length<=sizeLine/\k=((y.length:Int) != 0)
 |.byt y=>y.size<=sizeLine/\k=((y.size:Int) != 0)
 |.ref p=>(∃xs,SqL K H p xs/\k = !xs.isEmpty)\/(∃xs,SqT K H p xs/\k = !xs.isEmpty)\/∃kvs,H p=some (.dK kvs)/\k = !kvs.isEmpty
 |_=>False
theorem zf0{κ:Type}{kvs:List (κ×V)}{vs:List (κ×Value)}(r:KV kvs vs):(!vs.isEmpty) = !kvs.isEmpty:=by
 cases r <;> rfl
theorem zba{xs:List V}{its:List Value}(r:Vals xs its):(!its.toArray.isEmpty) = !xs.isEmpty:=by
 cases r <;> simp
theorem kl:(sizeLine:Nat)<2 ^ 63:=by rw[sizeLine_eq];decide
theorem zp1:zue X (λx H Q=>∃k,zp0 X.K x H k/\Q k H):=by
 intro pins s σ H x v Q I rx h;obtain⟨k,e,q⟩:=h;have hl:=kl;have hs:sizeLine=16777216:=sizeLine_eq
 cases x with
 |non=>
  cases rx;have e':k=false:=e;subst e';exact truthy_none ⟨H,I,q⟩
 |bl b=>
  cases rx;have e':k=b:=e;subst e';exact wpAny_truthy_bool ⟨H,I,q⟩
 |int i=>
  obtain⟨t,rfl⟩:=rx;have e':k=(i != 0):=e;subst e';exact PySem.P.truthy_int ⟨H,I,q⟩
 |str y=>
  obtain⟨t,rfl⟩:=rx;obtain⟨hy,e'⟩:y.length<=sizeLine/\k=((y.length:Int) != 0):=e;subst e';exact PySem.P.truthy_str (by omega) ⟨H,I.tok _,q⟩
 |byt y=>
  obtain⟨t,rfl⟩:=rx;obtain⟨hy,e'⟩:y.size<=sizeLine/\k=((y.size:Int) != 0):=e;subst e';exact PySem.W.truthy_bytes (by omega) ⟨H,I.tok _,q⟩
 |ref p=>
  cases rx;have e':(∃xs,SqL X.K H p xs/\k = !xs.isEmpty)\/(∃xs,SqT X.K H p xs/\k = !xs.isEmpty)\/∃kvs,H p=some (.dK kvs)/\k = !kvs.isEmpty:=e;rcases e' with⟨xs,hx,e'⟩ |⟨xs,hx,e'⟩ |⟨kvs,hx,e'⟩
  ·subst e';obtain⟨its,r,pl,hz⟩:=I.list hx;have hlen:=r.length;exact wpAny_truthy_list pl.isList (by simp only[List.size_toArray];omega) ⟨H,I.tok _,by rw[zba r];exact q⟩
  ·subst e';obtain⟨its,r,pl,hz⟩:=I.tuple hx;have hlen:=r.length;exact truthy_tuple pl (by simp only[List.size_toArray];omega) ⟨H,I.tok _,by rw[zba r];exact q⟩
  ·subst e';obtain⟨hz,hS,vs,r,m⟩:kvs.length<=sizeLine/\(p == sysModules)=false/\∃vs,KV kvs vs/\s.heap.DictOf (ym X.prog X.w) p vs:=I.hok p _ hx;have hlen:kvs.length=vs.length:=Paired.length r;exact wpAny_truthy_dict hS m (by omega) ⟨H,I.tok _,by rw[zf0 r];exact q⟩
 |_=>exact(show False from e).elim
theorem zej(ha:PE X a ta)(he:∀whole,isTrue a X.env whole=(do let v <-whole;standAt a.pos;holding [v] (truthy v))):
  PT X a (λσ H Q=>ta σ H λx H'=>∃k,zp0 X.K x H' k/\Q k H'):=by
 intro pins s σ H Q I h;exact isTrue_plain (thn (ha pins s σ H _ I h) λv s1 ⟨x,H1,I1,r1,q1⟩=>zp1 pins s1 σ H1 x v Q I1 r1 q1) (he _)
theorem zf1:OpR X (binaryOp .Add) (λx y H Q=>∃i j,x=.str i/\y=.str j/\i.length+j.length<=sizeLine/\Q (.str (i++j)) H):=by
 intro pins s σ H x y v u Q I rx ry h;obtain⟨i,j,rfl,rfl,hz,q⟩:=h;obtain⟨t,rfl⟩:=rx;obtain⟨t',rfl⟩:=ry;exact add_str (λt' tk=>⟨.str (i++j),H,I.tok _,⟨_,rfl⟩,q⟩) hz
theorem zcp{x:V}{us:List Value}(r:Vals [x] us):∃u,us = [u]/\RelV x u:=by
 cases r with
 |cons r1 r2=>cases r2;exact⟨_,rfl,r1⟩
theorem zov{x y:V}{us:List Value}(r:Vals [x,y] us):∃u w',us = [u,w']/\RelV x u/\RelV y w':=by
 cases r with
 |cons r1 r2=>
  cases r2 with
  |cons r3 r4=>cases r4;exact⟨_,_,rfl,r1,r3⟩
theorem zjq:wd X (.builtin "abs") (λxs H Q=>∃i,xs = [.int i]/\Q (.int (if i<0 then -i else i)) H):=by
 intro pins s σ H xs us Q I r h;obtain⟨i,rfl,q⟩:=h;obtain⟨u,rfl,t,rfl⟩:=zcp r;exact call_abs_int λu tk=>⟨.int (if i<0 then -i else i),H,I.tok _,⟨_,rfl⟩,q⟩
theorem zid(hc:X.calm=true):wd X (.builtin "max") (λxs H Q=>∃i j,xs = [.int i,.int j]/\Q (.int (if j > i then j else i)) H):=by
 intro pins s σ H xs us Q I r h;obtain⟨i,j,rfl,q⟩:=h;obtain⟨u,w',rfl,⟨t,rfl⟩,⟨t',rfl⟩⟩:=zov r;refine max_two_ints (I.ok.hd hc) λh' tk k=>⟨_,H,I.kept k,?_,q⟩
 by_cases hj:j > i
 ·rw[if_pos hj,if_pos hj];exact⟨_,rfl⟩
 ·rw[if_neg hj,if_neg hj];exact⟨_,rfl⟩
theorem zie(hc:X.calm=true):wd X (.builtin "min") (λxs H Q=>∃i j,xs = [.int i,.int j]/\Q (.int (if j<i then j else i)) H):=by
 intro pins s σ H xs us Q I r h;obtain⟨i,j,rfl,q⟩:=h;obtain⟨u,w',rfl,⟨t,rfl⟩,⟨t',rfl⟩⟩:=zov r;refine min_two_ints (I.ok.hd hc) λh' tk k=>⟨_,H,I.kept k,?_,q⟩
 by_cases hj:j<i
 ·rw[if_pos hj,if_pos hj];exact⟨_,rfl⟩
 ·rw[if_neg hj,if_neg hj];exact⟨_,rfl⟩
theorem zif:wd X (.type "int") (λxs H Q=>(∃i,xs = [.int i]/\Q (.int i) H)\/∃k,xs = [.bl k]/\Q (.int (if k then 1 else 0)) H):=by
 intro pins s σ H xs us Q I r h;rcases h with⟨i,rfl,q⟩ |⟨k,rfl,q⟩
 ·obtain⟨u,rfl,t,rfl⟩:=zcp r;exact call_int_int ⟨.int i,H,I,⟨_,rfl⟩,q⟩
 ·obtain⟨u,rfl,r1⟩:=zcp r
  cases r1;exact call_int_bool ⟨.int (if k then 1 else 0),H,I.tok _,⟨_,rfl⟩,q⟩
def zuf(K:PySem.W.Frag)(x:V)(H:Hp)(n:Nat):Prop :=
 match x with
 |.str y=>y.length<=sizeLine/\n=y.length
 |.byt y=>y.size<=sizeLine/\n=y.size
 |.ref p=>(∃xs,SqL K H p xs/\n=xs.length)\/∃xs,SqT K H p xs/\n=xs.length
 |_=>False
theorem zjr:wd X (.builtin "len") (λxs H Q=>∃x n,xs = [x]/\zuf X.K x H n/\Q (.int n) H):=by
 intro pins s σ H xs us Q I r h;obtain⟨x,n,rfl,e,q⟩:=h;obtain⟨u,rfl,rx⟩:=zcp r;have hl:=kl;have hs:sizeLine=16777216:=sizeLine_eq
 cases x with
 |str y=>
  obtain⟨t,rfl⟩:=rx;obtain⟨hy,e'⟩:y.length<=sizeLine/\n=y.length:=e;subst e';exact len_str (by omega) ⟨.int _,H,I.tok _,⟨_,rfl⟩,q⟩
 |byt y=>
  obtain⟨t,rfl⟩:=rx;obtain⟨hy,e'⟩:y.size<=sizeLine/\n=y.size:=e;subst e';exact PySem.W.len_bytes (by omega) ⟨.int _,H,I.tok _,⟨_,rfl⟩,q⟩
 |ref p=>
  cases rx;have e':(∃xs,SqL X.K H p xs/\n=xs.length)\/∃xs,SqT X.K H p xs/\n=xs.length:=e;rcases e' with⟨xs,hx,e'⟩ |⟨xs,hx,e'⟩
  ·subst e';obtain⟨its,r',pl,hz⟩:=I.list hx;have hlen:=r'.length;exact Calls.call_len_list pl.isList (by simp only[List.size_toArray];omega) ⟨.int xs.length,H,I.tok _,⟨_,by simp only[List.size_toArray];rw[hlen]⟩,q⟩
  ·subst e';obtain⟨its,r',pl,hz⟩:=I.tuple hx;have hlen:=r'.length;exact len_tuple pl (by simp only[List.size_toArray];omega) ⟨.int xs.length,H,I.tok _,⟨_,by simp only[List.size_toArray];rw[hlen]⟩,q⟩
 |_=>exact(show False from e).elim
end
structure ObjM(h:Heap)(x dx C:Addr)(mA:Str->Option Value):Prop where
 obj:h.get? x=some (PySem.W.instObj C dx)
 ns:h.Ns1 dx mA
 ne:dx≠x
theorem zig{h:Heap}{dx:Addr}{mA:Str->Option Value}(n:h.Ns1 dx mA):∃od,h.get? dx=some od/\∀name,PySem.W.lookIn name od=some (mA name):=by
 obtain⟨o,es,ep,ho,hd,hk,_,hm⟩:=n;refine⟨o,ho,λname=>?_⟩;have e:=hm name;unfold nsFind findBy at e;rw[<-Array.find?_toList]at e;unfold PySem.W.lookIn;rw[hd];dsimp only
 split
 ·rename_i y q
  rw[q]at e;exact congrArg some e
 ·rename_i q
  rw[q]at e;have a:es.toList.any (·.refKey)=false:=by
   rw[List.any_eq_false];intro y hy;obtain⟨z,t,hkey⟩:=hk y (Array.mem_toList_iff.mp hy);simp[DictEntry.refKey,hkey]
  have a':¬ es.toList.any (·.refKey)=true:=by rw[a];exact Bool.false_ne_true
  rw[if_neg a'];exact congrArg some e
theorem ObjM.look{h:Heap}{x dx C:Addr}{mA:Str->Option Value}(I:ObjM h x dx C mA):∃od,PySem.W.InstAt h x (PySem.W.instObj C dx) C (some od)/\∀name,PySem.W.lookIn name od=some (mA name) :=
 let ⟨od,ho,hl⟩:=zig I.ns
 ⟨od,⟨I.obj,rfl,rfl,ho⟩,hl⟩
section
variable {prog:Program}{w:World}{A:Around}{E:Value->Shared->Prop}{s:Shared}{K:PySem.W.Frag}{x dx C f:Addr}{mA:Str->Option Value}{name:Str}{v:Value}
theorem zmq{expr:Bool}{Q:Value->Shared->Prop}(X:K.In s.heap)(I:ObjM s.heap x dx C mA)(hg:PySem.W.plainGet K C name=true)(hh:PySem.W.hasDictIn K C=true)
  (ha:PySem.W.findIn K (.ref C) name=some none) (hv:mA name=some v) (hv':PySem.W.handedIn v=true) (h:Q v { s with toks:=s.toks+1 }) :
  wpAny (model prog w) A (getAttr (.ref x) name expr) Q E s:=by
 obtain⟨od,J,hl⟩:=I.look;exact PySem.W.get_value X J (PySem.W.plainGet_of hg).1 (PySem.W.findObj_own hh ha rfl (by rw[hl,hv])) hv' h
theorem zjs{pl:Sem Bool}{Q:Value×List Value->Shared->Prop}(X:K.In s.heap)(I:ObjM s.heap x dx C mA)(hg:PySem.W.plainGet K C name=true)
  (hf:PySem.W.findIn K (.ref C) name=some (some (.ref f))) (ht:PySem.W.isFn K (.ref f)=true) (hv:mA name=none) (h:Q (.ref f,[.ref x]) s) :
  wpAny (model prog w) A (getMethod (.ref x) name pl) Q E s:=by
 obtain⟨od,J,hl⟩:=I.look;exact PySem.W.method_fn X J (PySem.W.plainGet_of hg).1 (PySem.W.plainGet_of hg).2 hf (beq_iff_eq.mp ht) (by show(PySem.W.lookIn name od).map (·.isSome)=some false;rw[hl,hv];rfl) h
theorem zmr{ns:List Str}{Q:Unit->Shared->Prop}(X:K.In s.heap)(I:ObjM s.heap x dx C mA)
  (hs:PySem.W.findIn K (.ref C) "__setattr__" = some (some (.builtin "object.__setattr__"))) (hp:PySem.W.plainOver K C=true) (ht:PySem.W.takerIn K C name=some none) (hh:PySem.W.hasDictIn K C=true)
  (hw:PySem.Within mA ns) (hsz:ns.length<=sizeLine)
  (h:∀h',ObjM h' x dx C (λy=>if y=name then some v else mA y)->Heap.SameBut dx s.heap h'->Q () { s with heap:=h',toks:=s.toks+2 }) :
  wpAny (model prog w) A (setAttr (.ref x) name v) Q E s:=by
 obtain⟨od,J,hl⟩:=I.look;refine PySem.W.set_plain X J hs (PySem.W.osa_open (s:={ s with toks:=s.toks+1 }) (r:=none) X J hp ht λb=>?_);obtain⟨cd,hc,hd'⟩:=PySem.W.any_some hh;have hx:s.heap.get? x=some ⟨.ref C,some dx,.plain,#[]⟩:=I.obj;refine wpAny_bind (wpAny_pure (wpAny_bind (wpAny_bind (wpAny_loadPart hx (wpAny_bind (PySem.W.Looks.here (s:={ s with toks:=s.toks+1 }) (PySem.W.looks_clsIn X hc) ?_))))));rw[hd'];refine wpAny_pure (a:=some dx) (wpAny_bind (wpAny_pure (wpAny_bind ?_)));refine wpAny_nsSet1 (s:={ s with toks:=s.toks+1 }) I.ns λh' hn2 hs2=>?_;obtain⟨oD,esD,epD,hoD,hdD,hcD⟩:=hn2.count (PySem.Within.cons name v hw);refine wpAny_bind (wpAny_lookBehind hoD (by rw[hdD];exact pastItsLine_dict (Nat.le_trans hcD (by rw[List.length_cons];omega))) ?_);exact wpAny_pure (h _ ⟨(hs2.2 _ (Ne.symm I.ne)).trans I.obj,hn2,I.ne⟩ hs2)
theorem zjt{R:Result->Shared->Prop}{vs:List Value}{kw:List (Str×Value)}(X:K.In s.heap)(hm:PySem.W.makesIn K C=true)
  (hi:PySem.W.findIn K (.ref C) "__init__" = some (some (.ref f))) (hf:PySem.W.typeIn K (.ref f)=some (.type "function"))
  (h:codeAny (model prog w) (A.under (.builtin "type.__call__" ⟨.ref C::vs,kw⟩)) (.call (.ref f) ⟨.ref (s.heap.objs.size+1)::vs,kw⟩) (PySem.W.InitBack (s.heap.objs.size+1) R)
   { s with heap:=(s.heap.push PySem.W.emptyDict).push (PySem.W.instObj C s.heap.objs.size) }) :
  codeAny (model prog w) A (.call (.ref C) ⟨vs,kw⟩) R s:=by
 obtain⟨hh,g,d,t,os⟩:=s;exact PySem.W.make_core (PySem.W.makes_of X hm) (PySem.W.looks_findIn X hi) (λself=>PySem.W.bind_fn X self hf) (.inl rfl) h
end
def wc(f:Str)(v:V):List (Str×V)->List (Str×V)
 |[]=>[(f,v)]
 |(g,x)::r=>if g=f then (g,v)::r else (g,x)::wc f v r
theorem zam(f g:Str)(v:V):∀fs:List (Str×V),(wc f v fs).lookup g=if g=f then some v else fs.lookup g
 |[]=>by
  show List.lookup g [(f,v)]=_
  by_cases h:g=f
  ·have hb:(g == f)=true:=beq_iff_eq.mpr h;simp only[List.lookup,hb,if_pos h]
  ·have hb:(g == f)=false:=beq_eq_false_iff_ne.mpr h;simp only[List.lookup,hb,if_neg h]
 |(k,x)::r=>by
  have ih:=zam f g v r;rw[show wc f v ((k,x)::r)=(if k=f then (k,v)::r else (k,x)::wc f v r) from rfl]
  by_cases hk:k=f
  ·rw[if_pos hk]
   by_cases h:g=k
   ·have hb:(g == k)=true:=beq_iff_eq.mpr h;simp only[List.lookup,hb,if_pos (h.trans hk)]
   ·have hb:(g == k)=false:=beq_eq_false_iff_ne.mpr h;simp only[List.lookup,hb,if_neg (λe:g=f=>h (e.trans hk.symm))]
  ·rw[if_neg hk]
   by_cases h:g=k
   ·have hb:(g == k)=true:=beq_iff_eq.mpr h;simp only[List.lookup,hb,if_neg (λe:g=f=>hk (h.symm.trans e))]
   ·have hb:(g == k)=false:=beq_eq_false_iff_ne.mpr h;simp only[List.lookup,hb];exact ih
theorem j1(f:Str)(v:V):∀fs:List (Str×V),f∈(wc f v fs).map (·.1)/\∀g,g∈fs.map (·.1)->g∈(wc f v fs).map (·.1)
 |[]=>⟨by simp[wc],λg h=>by simp at h⟩
 |(k,x)::r=>by
  obtain⟨i1,i2⟩:=j1 f v r;rw[show wc f v ((k,x)::r)=(if k=f then (k,v)::r else (k,x)::wc f v r) from rfl]
  by_cases hk:k=f
  ·rw[if_pos hk];subst hk;exact⟨by simp,λg h=>by simpa using h⟩
  ·rw[if_neg hk];refine⟨?_,λg h=>?_⟩
   ·rw[List.map_cons];exact List.mem_cons_of_mem _ i1
   ·rw[List.map_cons]at h ⊢;rcases List.mem_cons.mp h with e|e
    ·exact List.mem_cons.mpr (.inl e)
    ·exact List.mem_cons_of_mem _ (i2 g e)
theorem zan(f:Str)(v:V):∀fs:List (Str×V),(wc f v fs).length<=fs.length+1
 |[]=>by simp[wc]
 |(k,x)::r=>by
  have ih:=zan f v r;rw[show wc f v ((k,x)::r)=(if k=f then (k,v)::r else (k,x)::wc f v r) from rfl]
  by_cases hk:k=f
  ·rw[if_pos hk,List.length_cons,List.length_cons];omega
  ·rw[if_neg hk,List.length_cons,List.length_cons];omega
theorem RelO.some_of{v:V}{o:Option Value}(r:RelO (some v) o):∃u,o=some u/\RelV v u:=by
 cases o with
 |none=>exact(show False from r).elim
 |some u=>exact⟨u,rfl,r⟩
theorem RelO.none_of{o:Option Value}(r:RelO none o):o=none:=by
 cases o with
 |none=>rfl
 |some u=>exact(show False from r).elim
theorem zih{v:V}{u:Value}(r:RelV v u):PySem.W.handedIn u=true:=by
 cases v with
 |non=>cases (show u=Value.none from r);rfl
 |bl b=>cases (show u=Value.bool b from r);rfl
 |int i=>obtain⟨t,e⟩:=(show ∃t,u=Value.int i t from r);cases e;rfl
 |str x=>obtain⟨t,e⟩:=(show ∃t,u=Value.str x t from r);cases e;rfl
 |byt b=>obtain⟨t,e⟩:=(show ∃t,u=Value.bytes b t from r);cases e;rfl
 |flt b=>obtain⟨t,e⟩:=(show ∃t,u=Value.float b t from r);cases e;rfl
 |ref a=>cases (show u=Value.ref a from r);rfl
 |ty n=>cases (show u=Value.type n from r);rfl
section
variable {P:Program}{w:World}{H H':Hp}{h h':Heap}{a C dx:Addr}{fs fs':List (Str×V)}
theorem zdb(hok:HOk P w H h)(e:H a=some (.ins C dx fs)):∃mA,ObjM h a dx C mA/\(∀f,RelO (fs.lookup f) (mA f))/\PySem.Within mA (fs.map (·.1))/\fs.length<=1000/\H dx=some (.own a):=by
 obtain⟨d,z,ne,ob,mA,n,r,q⟩:=(show ObjOk P w H h a (.ins C dx fs) from hok a _ e)
 exact⟨mA,⟨ob,n,ne⟩,r,q,z,d⟩
end
structure Cls(K:PySem.W.Frag)(C:Addr):Prop where
 pg:PySem.W.plainGet K C Str.empty=true
 hd:PySem.W.hasDictIn K C=true
 po:PySem.W.plainOver K C=true
 sa:PySem.W.findIn K (.ref C) "__setattr__" = some (some (.builtin "object.__setattr__"))
theorem Cls.get{K:PySem.W.Frag}{C:Addr}(c:Cls K C)(f:Str):PySem.W.plainGet K C f=true:=c.pg
def NoAttr(K:PySem.W.Frag)(C:Addr)(f:Str):Prop:=PySem.W.findIn K (.ref C) f=some none
theorem NoAttr.taker{K:PySem.W.Frag}{C:Addr}{f:Str}(n:NoAttr K C f):PySem.W.takerIn K C f=some none:=by
 unfold PySem.W.takerIn;rw[show PySem.W.findIn K (.ref C) f=some none from n];rfl
structure Con(K:PySem.W.Frag)(C:Addr)(f:Str)(v:V)(u:Value):Prop where
 at_:PySem.W.findIn K (.ref C) f=some (some u)
 rel:RelV v u
 get:PySem.W.specialIn K u "__get__" = some none
 cp:PySem.W.copiedNames.contains f=false
structure zms(K:PySem.W.Frag)(C:Addr)(m:Str)(f:Addr):Prop where
 at_:PySem.W.findIn K (.ref C) m=some (some (.ref f))
 fn:PySem.W.isFn K (.ref f)=true
 kp:PySem.W.keepIn K (.ref f)=true
section
variable {X:Cx}{pins:List (Addr×Obj)}{σ:St}{H:Hp}{s:Shared}{a C dx:Addr}{fs:List (Str×V)}{f:Str}{v:V}{A:Around}{E:Value->Shared->Prop}
theorem zf2{b:Bool}{Q:Value->Shared->Prop}(I:Inv X pins σ H s)(e:H a=some (.ins C dx fs))(c:Cls X.K C)(n:NoAttr X.K C f)(l:fs.lookup f=some v)
  (h:∀u s',Inv X pins σ H s'->RelV v u->Q u s'):wpAny (model X.prog X.w) A (getAttr (.ref a) f b) Q E s:=by
 obtain⟨mA,O,r,_,_,_⟩:=zdb I.hok e;obtain⟨u,hu,ru⟩:=RelO.some_of (v:=v) (o:=mA f) (by rw[<-l];exact r f);exact zmq I.kIn O (c.get f) c.hd n hu (zih ru) (h u _ (I.tok _) ru)
theorem zf3{m:Str}{g:Addr}{pl:Sem Bool}{Q:Value×List Value->Shared->Prop}(I:Inv X pins σ H s)(e:H a=some (.ins C dx fs))(c:Cls X.K C)(k:zms X.K C m g)(l:fs.lookup m=none)
  (h:Q (.ref g,[.ref a]) s):wpAny (model X.prog X.w) A (getMethod (.ref a) m pl) Q E s:=by
 obtain⟨mA,O,r,_,_,_⟩:=zdb I.hok e;have hn:mA m=none:=RelO.none_of (by rw[<-l];exact r m);exact zjs I.kIn O (c.get m) k.at_ k.fn hn h
theorem zf4{y:V}{u:Value}{Q:Unit->Shared->Prop}(I:Inv X pins σ H s)(e:H a=some (.ins C dx fs))(c:Cls X.K C)(n:NoAttr X.K C f)(hl:fs.length<1000)(ry:RelV y u)
  (h:∀s',Inv X pins σ (upd H a (.ins C dx (wc f y fs))) s'->Q () s'):wpAny (model X.prog X.w) A (setAttr (.ref a) f u) Q E s:=by
 obtain⟨mA,O,r,wi,_,ho⟩:=zdb I.hok e;have hz:(fs.map (·.1)).length<=sizeLine:=by rw[List.length_map,sizeLine_eq];omega
 refine zmr I.kIn O c.sa c.po n.taker c.hd wi hz λh' O' sb=>h _ ?_;have hd:∃o,h'.get? dx=some o:=let ⟨o,_,_,e',_⟩:=O'.ns;⟨o,e'⟩;refine I.write (x:=a) (e:=dx) (by rw[e];exact True.intro) (.inr ho) (λb q hb z=>(sb.2 b hb).trans z) hd ?_;refine⟨by rw[zj O.ne];exact ho,?_,O.ne,O'.obj,_,O'.ns,λg=>?_,λg hg=>?_⟩
 ·have:=zan f y fs;omega
 ·show RelO ((wc f y fs).lookup g) (if g=f then some u else mA g);rw[zam]
  by_cases q:g=f
  ·rw[if_pos q,if_pos q];exact ry
  ·rw[if_neg q,if_neg q];exact r g
 ·by_cases q:g=f
  ·rw[q];exact(j1 f y fs).1
  ·refine(j1 f y fs).2 g (wi g λz=>hg ?_);show(if g=f then some u else mA g)=none;rw[if_neg q];exact z
theorem Inv.made(I:Inv X pins σ H s):Inv X pins σ (upd (upd H s.heap.objs.size (.own (s.heap.objs.size+1))) (s.heap.objs.size+1) (.ins C s.heap.objs.size []))
  { s with heap:=(s.heap.push PySem.W.emptyDict).push (PySem.W.instObj C s.heap.objs.size) }:=by
 have e1:(s.heap.push PySem.W.emptyDict).get? s.heap.objs.size=some PySem.W.emptyDict:=Heap.get?_push_size s.heap rfl;have e2:((s.heap.push PySem.W.emptyDict).push (PySem.W.instObj C s.heap.objs.size)).get? (s.heap.objs.size+1)=some (PySem.W.instObj C s.heap.objs.size):=by
  have:=Heap.get?_push_size (s.heap.push PySem.W.emptyDict) (o:=PySem.W.instObj C s.heap.objs.size) rfl
  rwa [Heap.size_push]at this
 have e3:(s.heap.push PySem.W.emptyDict).Ns s.heap.objs.size (λ_=>none):=⟨PySem.W.emptyDict,#[],_,e1,rfl,(λe he=>absurd he (by simp)),λ_=>rfl⟩
 have I1:=I.laid (a:=s.heap.objs.size) (o:=.own (s.heap.objs.size+1)) (h':=s.heap.push PySem.W.emptyDict) (t':=s.toks) (λb u q=>Heap.get?_push_of_some _ q) (Nat.le_refl _) ⟨_,e1⟩;refine I1.laid (a:=s.heap.objs.size+1) (o:=.ins C s.heap.objs.size []) (t':=s.toks) (λb u q=>Heap.get?_push_of_some _ q) (Nat.le_of_eq (Heap.size_push _ _)) ?_;have ne:s.heap.objs.size≠s.heap.objs.size+1:=Nat.ne_of_lt (Nat.lt_succ_self _);refine⟨by rw[zj ne,zl],Nat.zero_le _,ne,e2,λ_=>none,(Heap.Ns1.of_empty e3).at λo q=>Heap.get?_push_of_some _ q,λ_=>True.intro,λy hy=>absurd rfl hy⟩
theorem zmt{prog:Program}{w:World}{env:Env}{e:Expr}{f:Str}{pos:Pos}{s:Shared}{Q:Value->Shared->Prop}(hb:attributeBase e f env (eval e env)=eval e env)
  (h:wpAny (model prog w) A (eval e env) (λo s₁=>wpAny (model prog w) A (getAttr o f true) Q E s₁) E s):wpAny (model prog w) A (eval (.Attribute e f pos) env) Q E s :=
 Attribute_any_ h (by rw[arm_eval_Attribute,hb])
end
def zug(K:PySem.W.Frag)(ta:TE)(f:Str):TE:=λσ H Q=>ta σ H λx H1=>∃a C dx fs v,x=.ref a/\H1 a=some (.ins C dx fs)/\Cls K C/\NoAttr K C f/\fs.lookup f=some v/\Q v H1
def zuh(K:PySem.W.Frag)(ta tv:TE)(f:Str):TS:=λD σ H=>tv σ H λy H1=>ta σ H1 λx H2=>∃a C dx fs,x=.ref a/\H2 a=some (.ins C dx fs)/\Cls K C/\NoAttr K C f/\fs.length<1000 /\
 D.nx σ (upd H2 a (.ins C dx (wc f y fs)))
section
variable {X:Cx}{o e value:Expr}{f:Str}{pos pos' tpos:Pos}{ta tv:TE}
theorem zp2(he:PE X e ta)(hb:attributeBase e f X.env (eval e X.env)=eval e X.env):PE X (.Attribute e f pos) (zug X.K ta f):=by
 intro pins s σ H Q I h;refine zmt hb (thn (he pins s σ H _ I h) λu s1 ⟨x,H1,I1,rx,a,C,dx,fs,v,ex,ea,c,n,l,q⟩=>?_);subst ex;obtain rfl:u=Value.ref a:=rx;exact zf2 I1 ea c n l λu' s2 I2 ru=>⟨v,H1,I2,ru,q⟩
theorem zp3(ha:PE X o ta)(hv:PE X value tv)(hs:swapsWith value (some (.Attribute o f pos')) pos.line X.env=pure false):PS X (.Assign [.Attribute o f pos'] value pos) (zuh X.K ta tv f):=by
 intro pins s σ H D I h;refine plainObj_wpAny_Assign_Attribute (thn (hv pins s σ H _ I h) λu s1 ⟨y,H1,I1,ry,q⟩=>thn (ha pins s1 σ H1 _ I1 q) λov s2 ⟨x,H2,I2,rx,a,C,dx,fs,ex,ea,c,n,l,q2⟩=>?_) hs;subst ex;obtain rfl:ov=Value.ref a:=rx;exact zf4 I2 ea c n l ry λs3 I3=>⟨σ,_,I3,q2⟩
end
section
variable {X:Cx}{pins:List (Addr×Obj)}{σ:St}{H:Hp}{s:Shared}{A:Around}{E:Value->Shared->Prop}{Q:Value->Shared->Prop}{c:Value}{b:Bool}
inductive zbb(K:PySem.W.Frag)(H:Hp):V->Value->Prop where
 |non:zbb K H .non (.type "NoneType")
 |bl (x:Bool):zbb K H (.bl x) (.type "bool")
 |int (i:Int):zbb K H (.int i) (.type "int")
 |str (x:Str):zbb K H (.str x) (.type "str")
 |flt (x:UInt64):zbb K H (.flt x) (.type "float")
 |lst {a:Addr}{xs:List V} (e:H a=some (.lst xs)):zbb K H (.ref a) (.type "list")
 |frz {a:Addr}{o:Obj}{xs:List V} (e:H a=some (.frz o (.lst xs))):zbb K H (.ref a) (.type "list")
 |tup {a:Addr}{xs:List V} (e:H a=some (.tup xs)):zbb K H (.ref a) (.type "tuple")
 |dK {a:Addr}{kvs:List (Key×V)} (e:H a=some (.dK kvs)):zbb K H (.ref a) (.type "dict")
 |dT {a:Addr}{kvs:List (List Key×V)} (e:H a=some (.dT kvs)):zbb K H (.ref a) (.type "dict")
 |ins {a C dx:Addr}{fs:List (Str×V)} (e:H a=some (.ins C dx fs)) (cl:Cls K C) (ha:PySem.W.findIn K (.ref C) "__class__" = some (some (.builtin "object.__class__")))
   (hn:PySem.W.specialIn K (.builtin "object.__class__") "__get__" = some (some (.builtin "getset_descriptor.__get__"))) (htk:PySem.W.takesIn K (.builtin "object.__class__")=some true)
   (hm:PySem.W.mroIn K C (.type "object")=some true):zbb K H (.ref a) (.ref C)
end
structure Room(k:Nat)(A:Around):Prop where
 hd:A.handled=none
 dp:A.depth+3 * k+5<recursionLimit
 un:A.units+16 * k+200<cLine
 gd:A.guards=some []
theorem Room.mono{j k:Nat}{A:Around}(r:Room k A)(h:j<=k):Room j A:=⟨r.hd,by have:=r.dp;omega,by have:=r.un;omega,r.gd⟩
theorem Room.deeper{k:Nat}{A:Around}(r:Room (k+1) A)(env:Env):Room k (A.deeper env) :=
 ⟨r.hd,by have:=r.dp;show A.depth+1+3 * k+5<_;omega,by have:=r.un;show A.units+3+16 * k+200<_;omega,r.gd⟩
theorem zf5{A:Around}{C:Addr}{us:List Value}{kw:List (Str×Value)}:(A.under (.builtin "type.__call__" ⟨.ref C::us,kw⟩)).depth=A.depth+1:=by
 first|rfl|simp[Around.under,Code.weight,Code.isCreation,Code.isGuard,Code.isCaller,Code.frames,Code.isFrame,guardIds]
theorem zf6{A:Around}{C:Addr}{us:List Value}{kw:List (Str×Value)}:(A.under (.builtin "type.__call__" ⟨.ref C::us,kw⟩)).units=A.units+1:=by
 first|rfl|simp[Around.under,Code.cUnits,Code.frames,Code.isFrame]
theorem Room.make{k:Nat}{A:Around}(r:Room (k+1) A)(C:Addr)(us:List Value)(kw:List (Str×Value)):Room k (A.under (.builtin "type.__call__" ⟨.ref C::us,kw⟩)) :=
 ⟨r.hd,by have:=r.dp;rw[zf5];omega,by have:=r.un;rw[zf6];omega,by first|exact r.gd |(simp[Around.under,Code.isGuard,guardIds];exact r.gd)⟩
theorem Room.depth{k:Nat}{A:Around}(r:Room k A):A.depth<recursionLimit:=by have:=r.dp;omega
theorem Room.units{k:Nat}{A:Around}(r:Room k A):A.units+64<cLine:=by have:=r.un;omega
def zsy:TA:=λ_ H Q=>Q [] H
def zsz(ta:TE)(tr:TA):TA:=λσ H Q=>ta σ H λx H1=>tr σ H1 λxs H2=>Q (x::xs) H2
section
variable {X:Cx}{e:Expr}{es:List Expr}{te:TE}{t:TA}{pos:Pos}
theorem xy:PA X [] zsy:=λ_ _ _ _ H Q I h=>Calls.spliced_nil ⟨[],H,I,.nil,h⟩
theorem yu(ha:PE X e te)(hr:PA X es t)(hs:starEach (e::es) X.env=(false,eval e X.env)::starEach es X.env:=by rfl):PA X (e::es) (zsz te t):=by
 intro pos pins s σ H Q I h;rw[hs];show wpAny _ _ (spliced ((false,eval e X.env)::backTo pos (starEach es X.env))) _ _ s;refine Calls.spliced_cons (thn (ha pins s σ H _ I h) λu s1 ⟨x,H1,I1,r1,q1⟩=>?_);exact thn (hr pos pins s1 σ H1 _ I1 q1) λus s2 ⟨xs,H2,I2,r2,q2⟩=>⟨x::xs,H2,I2,.cons r1 r2,q2⟩
def zui(t:TA):TE:=λσ H Q=>t σ H λxs H1=>xs.length<=sizeLine/\∀p,H1 p=none->Q (.ref p) (upd H1 p (.tup xs))
def zuj(t:TA):TE:=λσ H Q=>t σ H λxs H1=>xs.length<=sizeLine/\∀p,H1 p=none->Q (.ref p) (upd H1 p (.lst xs))
theorem zf7{x1}(h:PA X es t):PE X (.Tuple es x1 pos) (zui t):=by
 intro pins s σ H Q I hq;refine wpAny_Tuple_spliced (thn (h pos pins s σ H _ I hq) λus s1 ⟨xs,H1,I1,r,z,q⟩=>⟨by rw[<-r.length];exact z,?_⟩);have hf:H1 s1.heap.objs.size=none:=I1.hok.fresh (Nat.le_refl _);refine⟨.ref s1.heap.objs.size,upd H1 s1.heap.objs.size (.tup xs),I1.laid (t':=s1.toks) (λb u e=>Heap.get?_push_of_some _ e) (Nat.le_refl _) ?_,rfl,q _ hf⟩;exact⟨z,us,r,⟨_,Heap.get?_push_size _ rfl,rfl,⟨_,rfl⟩,rfl⟩⟩
theorem zp4(h:PA X es t):PE X (.List es pos) (zuj t):=by
 intro pins s σ H Q I hq;refine wpAny_List_spliced (thn (h pos pins s σ H _ I hq) λus s1 ⟨xs,H1,I1,r,z,q⟩=>⟨by rw[<-r.length];exact z,?_⟩);have hf:H1 s1.heap.objs.size=none:=I1.hok.fresh (Nat.le_refl _);refine⟨.ref s1.heap.objs.size,upd H1 s1.heap.objs.size (.lst xs),I1.laid (t':=s1.toks) (λb u e=>Heap.get?_push_of_some _ e) (Nat.le_refl _) ?_,rfl,q _ hf⟩;exact⟨z,us,0,r,Heap.get?_push_size _ rfl⟩
end
abbrev Sp:=List V->Hp->VK->XK->Prop
abbrev CXT:=List Env->Hp->Shared->XK->Value->Shared->Prop
structure Env0(P:Program)(w:World)(K:PySem.W.Frag)(mg:Str->Option Value)(base:Heap)(A:Around)(outer:List Env)(s:Shared)(H:Hp):Prop where
 frames:A.frames=some outer
 mod:Mod K mg base
 bs:∀b o,base.get? b=some o->s.heap.get? b=some o/\H b=none
 bsz:base.objs.size<=s.heap.objs.size
 funs:s.heap.FunFrames base outer
 frf:∀b∈frs outer,H b=none
 hok:HOk P w H s.heap
 bare:AllBare s.gens
def CE(outer:List Env)(P:Program)(w:World)(H:Hp)(s:Shared)(Q:VK)(u:Value)(s':Shared):Prop :=
 ∃v H',s'.os=s.os/\AllBare s'.gens/\Un (frs outer) [] H H' s.heap s'.heap/\HOk P w H' s'.heap/\RelV v u/\Q v H'
def CR(CX:CXT)(outer:List Env)(P:Program)(w:World)(H:Hp)(s:Shared)(Q:VK)(E:XK)(r:Result)(s':Shared):Prop :=
 match r with
 |.ok (.ret u)=>CE outer P w H s Q u s'
 |.ok _=>False
 |.error e=>CX outer H s E e s'
structure FnOk(P:Program)(w:World)(K:PySem.W.Frag)(mg:Str->Option Value)(base:Heap)(CX:CXT)(k:Nat)(f:Addr)(fd:FuncData)(ps:List Str)(sp:Sp):Prop where
 len:∀vs H Q E,sp vs H Q E->vs.length=ps.length
 run:∀(A:Around) (outer:List Env) (s:Shared) (H:Hp) (args:Args) (us:List Value) (vs:List V) (Q:VK) (E:XK),Room k A->Env0 P w K mg base A outer s H->BindsTo s fd args (ps.zip us)->Vals vs us->sp vs H Q E ->
  codeAny (model P w) A (.call (.ref f) args) (CR CX outer P w H s Q E) s
theorem FnOk.mono{P:Program}{w:World}{K:PySem.W.Frag}{mg:Str->Option Value}{base:Heap}{CX:CXT}{j k:Nat}{f:Addr}{fd:FuncData}{ps:List Str}{sp:Sp}(F:FnOk P w K mg base CX j f fd ps sp)(h:j<=k):
  FnOk P w K mg base CX k f fd ps sp:=⟨F.len,λA outer s H args us vs Q E hr=>F.run A outer s H args us vs Q E (hr.mono h)⟩
theorem FnOk.imp{P:Program}{w:World}{K:PySem.W.Frag}{mg:Str->Option Value}{base:Heap}{CX:CXT}{k:Nat}{f:Addr}{fd:FuncData}{ps:List Str}{sp sp':Sp}(F:FnOk P w K mg base CX k f fd ps sp)
  (h:∀vs H Q E,sp' vs H Q E->sp vs H Q E):FnOk P w K mg base CX k f fd ps sp' :=
 ⟨λvs H Q E q=>F.len vs H Q E (h _ _ _ _ q),λA outer s H args us vs Q E hr he hb hv hs=>F.run A outer s H args us vs Q E hr he hb hv (h _ _ _ _ hs)⟩
theorem Env0.make{P:Program}{w:World}{K:PySem.W.Frag}{mg:Str->Option Value}{base:Heap}{A:Around}{outer:List Env}{s:Shared}{H:Hp}(e:Env0 P w K mg base A outer s H)(C:Addr)(us:List Value)(kw:List (Str×Value)):
  Env0 P w K mg base (A.under (.builtin "type.__call__" ⟨.ref C::us,kw⟩)) outer s H:=⟨by first|exact e.frames |(simpa[Around.under,Code.envs,Code.isFrame,pushEnvs]using e.frames),e.mod,e.bs,e.bsz,e.funs,e.frf,e.hok,e.bare⟩
section
variable {X:Cx}{pins:List (Addr×Obj)}{σ:St}{H:Hp}{s s':Shared}
theorem Inv.env0(I:Inv X pins σ H s):Env0 X.prog X.w X.K X.mg X.base X.A X.stack s H :=
 ⟨I.ok.frames,I.ok.mod,I.bs,Nat.le_trans I.ok.bsz I.sz,I.stack,I.stkFree,I.hok,I.bare⟩
theorem Inv.after{Q:VK}{u:Value}(I:Inv X pins σ H s)(h:CE X.stack X.prog X.w H s Q u s'):EP X pins σ Q u s':=by
 obtain⟨v,H',os,bare,un,hok,r,q⟩:=h;obtain⟨hh,g,d,t,os'⟩:=s';obtain rfl:os'=s.os:=os;exact⟨v,H',I.call (h':=hh) (g':=g) (d':=d) (t':=t) (ch:=[]) un hok bare (λb z=>absurd z (by simp)),r,q⟩
end
def zow(sp:Sp)(dvs:List V)(E:XK)(t:TA):TE:=λσ H Q=>t σ H λvs H1=>sp (vs++dvs) H1 Q E
def zs0(C:Addr)(m:Str)(sp:Sp)(dvs:List V)(E:XK)(ta:TE)(t:TA):TE:=λσ H Q=>ta σ H λx H1=>∃a dx fs,x=.ref a/\H1 a=some (.ins C dx fs)/\fs.lookup m=none /\
 t σ H1 λvs H2=>sp (x::(vs++dvs)) H2 Q E
def zs1(C:Addr)(sp:Sp)(dvs:List V)(E:XK)(t:TA):TE:=λσ H Q=>t σ H λvs H1=>∀x dx,H1 x=none->H1 dx=none->dx≠x ->
 sp (.ref x::(vs++dvs)) (upd (upd H1 dx (.own x)) x (.ins C dx [])) (λv H2=>v=.non/\Q (.ref x) H2) E
def Binds(K:PySem.W.Frag)(fd:FuncData)(ps:List Str)(ds:List Value):Prop :=
 ∀(s:Shared) (us:List Value),K.In s.heap->(us++ds).length=ps.length->BindsTo s fd ⟨us,[]⟩ (ps.zip (us++ds))
theorem Binds.all{K:PySem.W.Frag}{fd:FuncData}{ps:List Str}(h:∀us:List Value,us.length=ps.length->bindArgs fd ⟨us,[]⟩=pure (ps.zip us)):Binds K fd ps []:=λs us _ hl=>by
 rw[List.append_nil]at hl ⊢;exact .of_eq (h us hl)
def j2(CX:CXT)(X:Cx)(E:XK):Prop:=∀(pins:List (Addr×Obj)) (σ:St) (H:Hp) (s:Shared) (e:Value) (s':Shared),Inv X pins σ H s->CX X.stack H s E e s'->X.xe e s'
section
variable {X:Cx}{CX:CXT}{k:Nat}{f C:Addr}{fd:FuncData}{ps:List Str}{sp:Sp}{dvs:List V}{ds:List Value}{E:XK}{x m:Str}{p pos apos:Pos}{e o:Expr}{es:List Expr}{ta:TE}{t:TA}
theorem zju{pins:List (Addr×Obj)}{σ:St}{H:Hp}{s:Shared}{Q:VK}{us:List Value}{vs:List V}(F:FnOk X.prog X.w X.K X.mg X.base CX k f fd ps sp)(hr:Room k X.A)(hb:Binds X.K fd ps ds)(hd:Vals dvs ds)(hx:j2 CX X E)
  (I:Inv X pins σ H s) (r:Vals vs us) (h:sp (vs++dvs) H Q E):wpAny (model X.prog X.w) X.A (call (.ref f) us) (EP X pins σ Q) X.xe s:=by
 have r2:Vals (vs++dvs) (us++ds):=r.append hd;have hl:(us++ds).length=ps.length:=by rw[<-r2.length];exact F.len _ _ _ _ h
 refine wpAny_call (codeAny_mono (F.run X.A X.stack s H ⟨us,[]⟩ (us++ds) (vs++dvs) Q E hr I.env0 (hb s us I.kIn hl) r2 h) λr s' hq=>?_)
 cases r with
 |error e=>exact hx pins σ H s e s' I hq
 |ok fl=>
  cases fl with
  |ret u=>exact I.after hq
  |next=>exact False.elim hq
  |brk=>exact False.elim hq
  |cont=>exact False.elim hq
theorem zmu(F:FnOk X.prog X.w X.K X.mg X.base CX k f fd ps sp)(hr:Room k X.A)(hg:Gl X x)(hm:X.mg x=some (.ref f))(hk:PySem.W.keepIn X.K (.ref f)=true)(hb:Binds X.K fd ps ds)(hd:Vals dvs ds)(hx:j2 CX X E)
  (ha:PA X (e::es) t) (hdb:(x ==("__debug__" : Str))=false:=by decide) (he:starEach (e::es) X.env=(false,eval e X.env)::starEach es X.env:=by rfl) (hpl:(backTo pos (starEach es X.env)).any (·.1)=false:=by rfl) :
  PE X (.Call (.Name x p) (e::es) [] pos) (zow sp dvs E t):=by
 intro pins s σ H Q I h;refine wpAny_Call_Name_kw (zda I hg hm ?_ hdb);refine PySem.W.callWith_K (h₀:=X.base) I.ok.mod.kin hk (thn (ha pos pins s σ H _ I h) λus s1 ⟨vs,H1,I1,r,q⟩=>⟨I1.kIn,?_⟩) he hpl;exact zju F hr hb hd hx I1 r q
theorem zjv{pl:Sem Bool}(he:PE X o ta)(c:Cls X.K C)(hm:zms X.K C m f)(F:FnOk X.prog X.w X.K X.mg X.base CX k f fd ps sp)(hr:Room k X.A)(hb:Binds X.K fd ps ds)(hd:Vals dvs ds)(hx:j2 CX X E)
  (ht:eval (.Call (.Attribute o m apos) [] [] pos) X.env=(do
   let ov <-eval o X.env
   standAt apos.atName
   let (f,first) <-holding [ov] (getMethod ov m pl)
   callWith pos f first (backTo pos (starEach [] X.env)) (backToKw pos (keywordEach [] X.env))):=by rfl) :
  PE X (.Call (.Attribute o m apos) [] [] pos) (zs0 C m sp dvs E ta zsy):=by
 intro pins s σ H Q I h;refine PySem.W.methodCall_KW (pl:=pl) (thn (he pins s σ H _ I h) λu s1 ⟨x,H1,I1,rx,a,dx,fs,ex,ea,l,q⟩=>?_) ht;subst ex;obtain rfl:u=Value.ref a:=rx;refine zf3 I1 ea c hm l ?_;exact PySem.W.callWith_K0 (first:=[.ref a]) I1.kIn hm.kp (zju (us:=[.ref a]) (vs:=[.ref a]) F hr hb hd hx I1 (.cons rfl .nil) q)
structure Mk(K:PySem.W.Frag)(C f:Addr):Prop where
 makes:PySem.W.makesIn K C=true
 init:PySem.W.findIn K (.ref C) "__init__" = some (some (.ref f))
 fn:PySem.W.isFn K (.ref f)=true
 kp:PySem.W.keepIn K (.ref C)=true
theorem zjw{pins:List (Addr×Obj)}{σ:St}{H:Hp}{s:Shared}{Q:VK}{us:List Value}{vs:List V}(M:Mk X.K C f)(F:FnOk X.prog X.w X.K X.mg X.base CX k f fd ps sp)(hr:Room (k+1) X.A)(hb:Binds X.K fd ps ds)(hd:Vals dvs ds)
  (hx:j2 CX X E) (I:Inv X pins σ H s) (r:Vals vs us)
  (h:∀x dx,H x=none->H dx=none->dx≠x->sp (.ref x::(vs++dvs)) (upd (upd H dx (.own x)) x (.ins C dx [])) (λv H2=>v=.non/\Q (.ref x) H2) E) :
  wpAny (model X.prog X.w) X.A (call (.ref C) us) (EP X pins σ Q) X.xe s:=by
 have hq:=h (s.heap.objs.size+1) s.heap.objs.size (I.hok.fresh (Nat.le_succ _)) (I.hok.fresh (Nat.le_refl _)) (Nat.ne_of_lt (Nat.lt_succ_self _));have I2:=Inv.made (C:=C) I;have r2:Vals (V.ref (s.heap.objs.size+1)::(vs++dvs)) (Value.ref (s.heap.objs.size+1)::(us++ds)):=.cons rfl (r.append hd);have hl:(Value.ref (s.heap.objs.size+1)::us++ds).length=ps.length:=by
  have e:=r2.length;rw[F.len _ _ _ _ hq]at e;exact e.symm
 refine wpAny_call (zjt (f:=f) I.kIn M.makes M.init (beq_iff_eq.mp M.fn) (codeAny_mono (F.run _ X.stack _ _ ⟨Value.ref (s.heap.objs.size+1)::us,[]⟩ (Value.ref (s.heap.objs.size+1)::(us++ds)) _ _ E (hr.make C us [])
  (I2.env0.make C us []) (hb _ (Value.ref (s.heap.objs.size+1)::us) I2.kIn hl) r2 hq) λr s' hq'=>?_))
 cases r with
 |error e=>exact hx pins σ _ _ e s' I2 hq'
 |ok fl=>
  cases fl with
  |ret u=>
   obtain⟨v,H',I3,rv,ev,q3⟩:=I2.after hq';subst ev;exact⟨rv,⟨V.ref (s.heap.objs.size+1),H',I3,rfl,q3⟩⟩
  |next=>exact False.elim hq'
  |brk=>exact False.elim hq'
  |cont=>exact False.elim hq'
theorem zmv(M:Mk X.K C f)(F:FnOk X.prog X.w X.K X.mg X.base CX k f fd ps sp)(hr:Room (k+1) X.A)(hg:Gl X x)(hm:X.mg x=some (.ref C))(hb:Binds X.K fd ps ds)(hd:Vals dvs ds)(hx:j2 CX X E)
  (ha:PA X (e::es) t) (hdb:(x ==("__debug__" : Str))=false:=by decide) (he:starEach (e::es) X.env=(false,eval e X.env)::starEach es X.env:=by rfl) (hpl:(backTo pos (starEach es X.env)).any (·.1)=false:=by rfl) :
  PE X (.Call (.Name x p) (e::es) [] pos) (zs1 C sp dvs E t):=by
 intro pins s σ H Q I h;refine wpAny_Call_Name_kw (zda I hg hm ?_ hdb);refine PySem.W.callWith_K (h₀:=X.base) I.ok.mod.kin M.kp (thn (ha pos pins s σ H _ I h) λus s1 ⟨vs,H1,I1,r,q⟩=>⟨I1.kIn,?_⟩) he hpl;exact zjw M F hr hb hd hx I1 r q
end
section
variable {X:Cx}{CX:CXT}{k:Nat}{f C:Addr}{fd:FuncData}{ps ks:List Str}{sp:Sp}{E:XK}{x m:Str}{p pos apos kpos:Pos}{e o:Expr}{es:List Expr}{kws:List Keyword}{te ta:TE}{t tk:TA}{nm:Option Str}
structure zuk(K:PySem.W.Frag)(fd:FuncData)(ps ks:List Str)(g:List Value->List Value->List Value)(gV:List V->List V->List V):Prop where
 to:∀(s:Shared) (us ws:List Value),K.In s.heap->(g us ws).length=ps.length->BindsTo s fd ⟨us,ks.zip ws⟩ (ps.zip (g us ws))
 rel:∀{vs:List V}{us:List Value}{zs:List V}{ws:List Value},Vals vs us->Vals zs ws->Vals (gV vs zs) (g us ws)
variable {g:List Value->List Value->List Value}{gV:List V->List V->List V}
end
structure zp(N P:List Str)(sc:Scope):Prop where
 kind:sc.kind=.function
 co:sc.isCoroutine=false
 gen:sc.isGenerator=false
 nd:N.Nodup
 pre:N.take P.length=P
 par:∀x∈P,sc.names.lookup x=some .local\/sc.names.lookup x=some .cell
 nofree:∀y∈sc.names,y.2 ≠ .free
theorem zcq{kindOf:Str->Option NameKind}{x:Str}:∀{binds:List (Str×Value)}{m:Str->Option Value},(∀v,(x,v)∉binds)->bindL kindOf binds m x=m x
 |[],_,_=>rfl
 |(n,v)::r,m,h=>by
  unfold bindL;rw[zcq λw hw=>h w (List.mem_cons_of_mem _ hw)]
  split
  ·have:x≠n:=by rintro rfl;exact h v List.mem_cons_self
   simp[this]
  ·rfl
theorem zcr{kindOf:Str->Option NameKind}{x:Str}:∀{binds:List (Str×Value)}{m:Str->Option Value},(∀v,(x,v)∉binds)->bindC kindOf binds m x=m x
 |[],_,_=>rfl
 |(n,v)::r,m,h=>by
  unfold bindC;rw[zcr λw hw=>h w (List.mem_cons_of_mem _ hw)]
  split
  ·rfl
  ·have:x≠n:=by rintro rfl;exact h v List.mem_cons_self
   simp[this]
theorem zcs{kindOf:Str->Option NameKind}{x:Str}{v:Value}:∀{P:List Str}{vs:List Value}{i:Nat}{m:Str->Option Value},P.Nodup->P[i]?=some x->vs[i]?=some v->kindOf x=some .local ->
  bindL kindOf (P.zip vs) m x=some v
 |[],_,_,_,_,h,_,_=>by simp at h
 |_::_,[],_,_,_,_,h,_=>by simp at h
 |p::P,w::vs,0,m,nd,h1,h2,hk=>by
  simp at h1 h2;subst h1;subst h2;show bindL kindOf ((p,w)::P.zip vs) m p=_;unfold bindL;rw[zcq λv hv=>(List.nodup_cons.mp nd).1 (List.of_mem_zip hv).1,if_pos hk];simp
 |p::P,w::vs,i+1,m,nd,h1,h2,hk=>by
  show bindL kindOf ((p,w)::P.zip vs) m x=_;unfold bindL;exact zcs (i:=i) (List.nodup_cons.mp nd).2 (by simpa using h1) (by simpa using h2) hk
theorem zct{kindOf:Str->Option NameKind}{x:Str}{v:Value}:∀{P:List Str}{vs:List Value}{i:Nat}{m:Str->Option Value},P.Nodup->P[i]?=some x->vs[i]?=some v->kindOf x≠some .local ->
  bindC kindOf (P.zip vs) m x=some v
 |[],_,_,_,_,h,_,_=>by simp at h
 |_::_,[],_,_,_,_,h,_=>by simp at h
 |p::P,w::vs,0,m,nd,h1,h2,hk=>by
  simp at h1 h2;subst h1;subst h2;show bindC kindOf ((p,w)::P.zip vs) m p=_;unfold bindC;rw[zcr λv hv=>(List.nodup_cons.mp nd).1 (List.of_mem_zip hv).1,if_neg hk];simp
 |p::P,w::vs,i+1,m,nd,h1,h2,hk=>by
  show bindC kindOf ((p,w)::P.zip vs) m x=_;unfold bindC;exact zct (i:=i) (List.nodup_cons.mp nd).2 (by simpa using h1) (by simpa using h2) hk
def start(N:List Str)(vs:List V):St:=vs.map some++List.replicate (N.length-vs.length) none
def zek(CX:CXT)(P:Program)(w:World)(K:PySem.W.Frag)(mg:Str->Option Value)(base:Heap)(N:List Str)(qual:Str)(scope:Scope)(f:Addr)(cd:Value)(A:Around)(outer:List Env)(s:Shared)(H:Hp)(E:XK):Cx where
 prog:=P
 w:=w
 K:=K
 mg:=mg
 base:=base
 A:=A.deeper (envOfC qual scope s.heap.objs.size f cd)
 N:=N
 s₀:=s
 H₀:=H
 env:=envOfC qual scope s.heap.objs.size f cd
 outer:=outer
 stack:=envOfC qual scope s.heap.objs.size f cd::outer
 ex:=[]
 calm:=true
 fn:=λ_=>true
 pn:=[]
 xe:=λe s'=>wpAny (model P w) (A.deeper (envOfC qual scope s.heap.objs.size f cd)) (leaving (envOfC qual scope s.heap.objs.size f cd) e) (λ_ s''=>CX outer H s E e s'') (λe' s''=>CX outer H s E e' s'') s'
theorem zel{sc:Scope}{n:Nat}{x:Str}(h:sc.names.lookup x=some .cell):∃c,(cellsFrom n sc.names []).lookup x=some c:=by
 have q:=PySem.W.cellsFrom_some sc.names n [] (.inl h);exact Option.isSome_iff_exists.mp q
theorem zii{CX:CXT}{P:Program}{w:World}{K:PySem.W.Frag}{mg:Str->Option Value}{base:Heap}{N ps:List Str}{qual:Str}{scope:Scope}{f:Addr}{cd:Value}{A:Around}{outer:List Env}{s s1:Shared}{H:Hp}{E:XK}{us:List Value}{vs:List V}
  (S:zp N ps scope) (hd:A.handled=none) (e0:Env0 P w K mg base A outer s H) (hl:vs.length=ps.length) (r:Vals vs us)
  (x:InCallC s s.heap.objs.size (bindL (envOfC qual scope s.heap.objs.size f cd).kindOf (ps.zip us) λ_=>none) (cellsFrom (s.heap.objs.size+1) scope.names []) (bindC (envOfC qual scope s.heap.objs.size f cd).kindOf (ps.zip us) λ_=>none) s1) :
  Inv (zek CX P w K mg base N qual scope f cd A outer s H E) [] (start N vs) H s1:=by
 have hpl:ps.length<=N.length:=by have:=congrArg List.length S.pre;rw[List.length_take]at this;omega
 obtain⟨h1,tk,rfl,hk⟩:=x.done;have noA:∀b:Addr,b∉(zek CX P w K mg base N qual scope f cd A outer s H E).ex:=λb z=>absurd (show b∈([]:List Addr) from z) (by simp);refine⟨⟨e0.mod,S.kind,rfl,rfl,Nat.le_refl _,λy z c h1 h2=>?_,λy hy=>?_,λy c _ h=>?_,λ_=>hd,Around.frames_deeper e0.frames,.inr ⟨rfl,rfl⟩,λb z=>absurd z (noA b),e0.bs,e0.bsz,λb _ _=>noA b,λb z=>absurd z (noA b),e0.funs,e0.frf⟩,
  rfl,e0.bare,Un.kept hk,⟨_,x.toInCall.ns,λi y v h1 h2 h3=>?_⟩,λy c h=>⟨_,x.cell y c h⟩,e0.hok.fresh (Nat.le_refl _),λy c h=>?_,λp hp=>absurd (show p∈([]:List (Addr×Obj)) from hp) (by simp),e0.hok.kept hk,?_⟩
 ·exact name_of_addr x.apart (PySem.mem_of_lookup h1) (PySem.mem_of_lookup h2)
 ·have hy:scope.names.lookup y=some .cell\/scope.names.lookup y=some .free:=hy;rcases hy with hy|hy
  ·exact zel hy
  ·exact absurd rfl (S.nofree _ (PySem.mem_of_lookup hy))
 ·exact Nat.le_of_lt (x.above y c (PySem.mem_of_lookup h))
 ·have hi:i<vs.length:=by
   unfold start at h2
   by_cases hi:i<vs.length
   ·exact hi
   ·rw[List.getElem?_append_right (by simpa using hi)]at h2;rw[List.getElem?_replicate]at h2
    split at h2 <;> cases h2
  have ha:vs[i]?=some v:=by
   unfold start at h2;rw[List.getElem?_append_left (by simpa using hi),List.getElem?_map]at h2
   cases e:vs[i]? with
   |none=>rw[e]at h2;cases h2
   |some a=>rw[e]at h2;cases h2;rfl
  obtain⟨u,hu,rv⟩:=r.get ha;have hp:ps[i]?=some y:=by
   rw[<-S.pre,List.getElem?_take_of_lt (by omega)];exact h1
  have ndP:ps.Nodup:=by rw[<-S.pre];exact S.nd.sublist (List.take_sublist _ _)
  refine⟨u,rv,?_⟩;rcases S.par y (List.mem_of_getElem? hp) with k|k
  ·exact .inl ⟨k,zcs ndP hp hu k⟩
  ·obtain⟨c,e⟩:=zel (n:=s.heap.objs.size+1) k;refine .inr ⟨.inl k,c,e,?_⟩;have q:=x.cell y c e;rw[zct ndP hp hu (by show scope.names.lookup y≠_;rw[k];decide)]at q;exact q
 ·exact e0.hok.fresh (Nat.le_of_lt (x.above y c (PySem.mem_of_lookup h)))
 ·unfold start;show _=N.length;rw[List.length_append,List.length_map,List.length_replicate];omega
theorem zs2{CX:CXT}{P:Program}{w:World}{K:PySem.W.Frag}{mg:Str->Option Value}{base:Heap}{k:Nat}{f:Addr}{name qual:Str}{params:Arguments}{body:List Stmt}{scope:Scope}{dV kV doc pm cdv ct oc:Value}{an od:Option Addr}
  {osl:Array (Option Value)}{N ps:List Str}{sp:Sp} (lk:K.lookup f=some ⟨oc,od,.func (PySem.W.fnOf name qual params body scope dV kV doc pm an cdv ct),osl⟩) (hcd:PySem.W.codeIn K cdv qual=true) (S:zp N ps scope)
  (len:∀vs H Q E,sp vs H Q E->vs.length=ps.length)
  (hbody:∀(A:Around) (outer:List Env) (s:Shared) (H:Hp) (vs:List V) (Q:VK) (E:XK),Room k (A.deeper (envOfC qual scope s.heap.objs.size f cdv))->sp vs H Q E ->
   ∃t,PSs (zek CX P w K mg base N qual scope f cdv A outer s H E) body t/\t { nx:=λ_ H'=>Q .non H',rt:=Q } (start N vs) H) :
  FnOk P w K mg base CX (k+1) f (PySem.W.fnOf name qual params body scope dV kV doc pm an cdv ct) ps sp:=by
 refine⟨len,λA outer s H args us vs Q E hr e0 hb r hsp=>?_⟩;have hl:=len _ _ _ _ hsp;have KX:K.In s.heap:=e0.mod.kin.keeps λb o e=>(e0.bs b o e).1;have lim:s.heap.NoLimit:=e0.mod.nolimit.keeps λb o e=>(e0.bs b o e).1;have hkind:∀y∈ps.zip us,scope.names.lookup y.1=some .local\/(scope.names.lookup y.1=some .cell/\((cellsFrom (s.heap.objs.size+1) scope.names []).lookup y.1).isSome=true):=λ⟨n,v⟩ hy=>by
  rcases S.par n (List.of_mem_zip hy).1 with q|q
  ·exact .inl q
  ·exact .inr ⟨q,PySem.W.cellsFrom_some _ _ _ (.inl q)⟩
 refine codeAny_call_function hr.depth (KX _ _ lk) rfl S.co S.gen rfl (PySem.W.codeRec_of KX hcd) (hb _ _ _ _ ?_);refine wpAny_newFunctionEnv_cells S.kind hkind λenv he s1 x=>?_;subst he;refine⟨lim.keeps x.toInCall.keep,codeAny_func ?_⟩;obtain⟨t,ht,hq⟩:=hbody A outer s H vs Q E (hr.deeper _) hsp;have I:Inv (zek CX P w K mg base N qual scope f cdv A outer s H E) [] (start N vs) H s1:=zii S hr.hd e0 hl r x;refine wpAny_mono (ht [] s1 (start N vs) H _ I hq) (λfl s' hs=>?_) λe s' hs=>hs;have fin:∀{σ':St}{H':Hp}{v:V}{u:Value},Inv (zek CX P w K mg base N qual scope f cdv A outer s H E) [] σ' H' s'->RelV v u->Q v H'->CE outer P w H s Q u s' :=
  λ{σ' H' v u} J rv q=>⟨v,H',J.os,J.bare,J.base,J.hok,rv,q⟩
 cases fl with
 |ret u=>
  obtain⟨v,σ',H',J,rv,q⟩:=hs;exact fin J rv q
 |next=>
  obtain⟨σ',H',J,q⟩:=hs;exact fin (v:=V.non) (u:=Value.none) J rfl q
 |brk=>
  obtain⟨_,_,_,q⟩:=hs;exact False.elim q
 |cont=>
  obtain⟨_,_,_,q⟩:=hs;exact False.elim q
section
variable {X:Cx}{x:Str}{p pos:Pos}{e:Expr}{es:List Expr}{t:TA}{id T:String}{r:List V->Hp->VK->Prop}
def tCB(r:List V->Hp->VK->Prop)(t:TA):TE:=λσ H Q=>t σ H λvs H1=>r vs H1 Q
theorem zbc(hc:wd X (.builtin id) r)(hg:Gl X x)(hm:X.mg x=none)(hv:bootBuiltins x=some (.builtin id))(ha:PA X (e::es) t)(hn:x ≠ "__name__" := by decide)(hdb:(x ==("__debug__" : Str))=false:=by decide)
  (he:starEach (e::es) X.env=(false,eval e X.env)::starEach es X.env:=by rfl) (hpl:(backTo pos (starEach es X.env)).any (·.1)=false:=by rfl):PE X (.Call (.Name x p) (e::es) [] pos) (tCB r t):=by
 intro pins s σ H Q I h;refine wpAny_Call_Name_kw (jz I hg hm hv ?_ hn hdb);exact PyProof.Rows.callWith_builtin1 (thn (ha pos pins s σ H _ I h) λus s1 ⟨vs,H1,I1,r1,q1⟩=>hc pins s1 σ H1 vs us Q I1 r1 q1) he hpl
theorem zij(hc:wd X (.type T) r)(hg:Gl X x)(hm:X.mg x=none)(hv:bootBuiltins x=some (.type T))(ha:PA X (e::es) t)(hn:x ≠ "__name__" := by decide)(hdb:(x ==("__debug__" : Str))=false:=by decide)
  (he:starEach (e::es) X.env=(false,eval e X.env)::starEach es X.env:=by rfl) (hpl:(backTo pos (starEach es X.env)).any (·.1)=false:=by rfl):PE X (.Call (.Name x p) (e::es) [] pos) (tCB r t):=by
 intro pins s σ H Q I h;refine wpAny_Call_Name_kw (jz I hg hm hv ?_ hn hdb);exact PyProof.Rows.callWith_type1 (thn (ha pos pins s σ H _ I h) λus s1 ⟨vs,H1,I1,r1,q1⟩=>hc pins s1 σ H1 vs us Q I1 r1 q1) he hpl
end
end L2
namespace HT
open PySem PyProof.Rows
section
open PySem.SeqAt
open PySem.AutoSeq1 (wpAny_loadPart')
open PySem.MeetsSeq PySem.MeetsSeq2 PySem.MeetsSeq3
end
section
variable {prog:Program}{w:World}{A:Around}{E:Value->Shared->Prop}{s:Shared}
theorem cat_tup{t b:Addr}{vs ws:List Value}{Q:Value->Shared->Prop}(ht:IsTup s.heap t vs.toArray)(hb:IsTup s.heap b ws.toArray)(hv:vs ≠ [])
  (h1:ws = []->Q (.ref t) s) (h2:ws ≠ []->Q (.ref s.heap.objs.size) { s with heap:=s.heap.push { cls:=.type "tuple",data:=.seq (vs++ws).toArray } })
  (hsz:vs.length+ws.length<=sizeLine):wpAny (model prog w) A (binaryOp .Add (.ref t) (.ref b)) Q E s:=by
 obtain⟨⟨cls,dd,data,sl⟩,ho,hc,n,hd⟩:=id ht;obtain⟨⟨cls2,dd2,data2,sl2⟩,ho2,hc2,n2,hd2⟩:=id hb;simp only at hc hd hc2 hd2;subst hc hd hc2 hd2;have e:vs.toArray++ws.toArray=(vs++ws).toArray:=by simp
 by_cases hw:ws = []
 ·exact concat_meets ⟨_,ho,rfl⟩ ⟨_,ho2,rfl⟩ noFill_tuple_add seq_tuple_add PySem.F.slot_tuple_add PySem.F.entry_tuple_add (PySem.F.args_tuple_add_2 _ _)
   (tuple_addW1 t b vs.toArray ws.toArray n n2 dd dd2 sl sl2 (by simpa using hv) (by simp[hw])) ⟨ho,ho2,h1 hw⟩
 ·refine concat_meets ⟨_,ho,rfl⟩ ⟨_,ho2,rfl⟩ noFill_tuple_add seq_tuple_add PySem.F.slot_tuple_add PySem.F.entry_tuple_add (PySem.F.args_tuple_add_2 _ _)
   (tuple_addW2 t b vs.toArray ws.toArray n n2 dd dd2 sl sl2 (by simpa using hv) (by simpa using hw) (by rw[List.size_toArray,List.size_toArray];exact hsz)) ⟨ho,ho2,?_⟩
  rw[e];exact h2 hw
def sIx(n d:Nat):Option Int->Nat
 |none=>d
 |some v=>if v<0 then (v+(n:Int)).toNat else min v.toNat n
end
end HT
namespace L2
open PySem PySem.Spec PyProof.Rows
abbrev TO:=St->Hp->(Option Int->Hp->Prop)->Prop
def PO(X:Cx)(e:Option Expr)(t:TO):Prop :=
 ∀(pins:List (Addr×Obj)) (s:Shared) (σ:St) (H:Hp) (Q:Option Int->Hp->Prop),Inv X pins σ H s->t σ H Q ->
  wpAny (model X.prog X.w) X.A (evalPart e X.env) (λu s'=>∃o H',Inv X pins σ H' s'/\IsPart u o/\Q o H') X.xe s
def zmw:TO:=λ_ H Q=>Q none H
def zs3(t:TE):TO:=λσ H Q=>t σ H λx H1=>∃i,x=.int i/\Q (some i) H1
section
variable {X:Cx}{e:Expr}{te:TE}{lo hi:Option Expr}{tl th:TO}{pos p2:Pos}
theorem zmx:PO X none zmw:=by
 intro pins s σ H Q I h;rw[evalPart_none];exact wpAny_pure ⟨none,H,I,.none,h⟩
theorem zmy(h:PE X e te):PO X (some e) (zs3 te):=by
 intro pins s σ H Q I hw;rw[evalPart_some];refine thn (h pins s σ H _ I hw) λu s1 ⟨x,H1,I1,r1,q1⟩=>?_;obtain⟨i,rfl,q⟩:=q1;obtain⟨t,rfl⟩:=r1;exact⟨some i,H1,I1,.int i t,q⟩
def SlR(X:Cx)(r:V->Option Int->Option Int->Hp->VK->Prop):Prop :=
 ∀(pins:List (Addr×Obj)) (s:Shared) (σ:St) (H:Hp) (x:V) (v vl vu:Value) (lo hi:Option Int) (sl:Addr) (Q:VK),Inv X pins σ H s->RelV x v->s.heap.IsSliceOf sl vl vu .none->IsPart vl lo->IsPart vu hi->r x lo hi H Q ->
  ∃T id,typeLookup (.type T) "__getitem__" = pure (some (.builtin id))/\s.TypeIs v T/\wpAny (model X.prog X.w) X.A (getItem v (.ref sl)) (EP X pins σ Q) X.xe s
def tSl(r:V->Option Int->Option Int->Hp->VK->Prop)(te:TE)(tl th:TO):TE:=λσ H Q=>te σ H λx H1=>tl σ H1 λl H2=>th σ H2 λu H3=>r x l u H3 Q
theorem zen{r:V->Option Int->Option Int->Hp->VK->Prop}(hr:SlR X r)(he:PE X e te)(hl:PO X lo tl)(hu:PO X hi th):PE X (.Subscript e (.Slice lo hi none p2) pos) (tSl r te tl th):=by
 intro pins s σ H Q I h;refine Subscript_ (thn (he pins s σ H _ I h) λv s1 ⟨x,H1,I1,r1,q1⟩=>?_);refine wpAny_Slice (thn (hl pins s1 σ H1 _ I1 q1) λvl s2 ⟨l,H2,I2,pl,q2⟩=>thn (hu pins s2 σ H2 _ I2 q2) λvu s3 ⟨u,H3,I3,pu,q3⟩=>?_);rw[evalPart_none];refine wpAny_pure ?_;have I4:Inv X pins σ H3 { s3 with heap:=s3.heap.push { cls:=.type "slice",data:=.fields #[vl,vu,.none] } }:=I3.kept (t':=s3.toks) λb ob q=>Heap.get?_push_of_some _ q;obtain⟨T,id,hT,ht,hg⟩:=hr pins { s3 with heap:=s3.heap.push { cls:=.type "slice",data:=.fields #[vl,vu,.none] } } σ H3 x v vl vu l u s3.heap.objs.size Q I4 r1 (Heap.IsSliceOf.new ..) pl pu q3;show wpAny (model X.prog X.w) X.A (subscriptTail e (.Slice lo hi none p2) v (.ref s3.heap.objs.size)) (EP X pins σ Q) X.xe { s3 with heap:=s3.heap.push { cls:=.type "slice",data:=.fields #[vl,vu,.none] } };exact tail_any (ops:=[.ref s3.heap.objs.size,v]) ht hT hg (by with_unfolding_all rfl)
def zik(xs:List V)(lo hi:Option Int):List V:=(xs.drop (HT.sIx xs.length 0 lo)).take (HT.sIx xs.length xs.length hi-HT.sIx xs.length 0 lo)
theorem zeo(xs:List V)(lo hi:Option Int):(zik xs lo hi).length<=xs.length:=by
 unfold zik;rw[List.length_take,List.length_drop];omega
theorem Vals.nil_iff{xs:List V}{us:List Value}(r:Vals xs us):us = []↔xs = []:=by
 cases r with
 |nil=>simp
 |cons _ _=>simp
end
def ixN(n:Nat)(i:Int):Option Nat:=if 0<=i then (if i<n then some i.toNat else none) else if -(n:Int)<=i then some (i+n).toNat else none
def atI{α:Type}(xs:List α)(i:Int):Option α:=(ixN xs.length i).bind λj=>xs[j]?
theorem zhh{n:Nat}{i:Int}{j:Nat}(h:ixN n i=some j):seqIndex? i n=some j/\j<n/\-(n:Int)<=i/\i<n:=by
 unfold ixN at h
 by_cases h0:0<=i
 ·rw[if_pos h0]at h
  by_cases h1:i<n
  ·rw[if_pos h1]at h;have e:i.toNat=j:=Option.some.inj h;exact⟨by rw[seqIndex_of h0 h1,e],by omega,by omega,h1⟩
  ·rw[if_neg h1]at h;cases h
 ·rw[if_neg h0]at h
  by_cases h1 : -(n:Int)<=i
  ·rw[if_pos h1]at h;have e:(i+n).toNat=j:=Option.some.inj h;exact⟨by rw[seqIndex_neg (by omega) h1,e],by omega,h1,by omega⟩
  ·rw[if_neg h1]at h;cases h
theorem zdc{α:Type}{xs:List α}{i:Int}{v:α}(h:atI xs i=some v):∃j,seqIndex? i xs.length=some j/\xs[j]?=some v/\j<xs.length/\-(xs.length:Int)<=i/\i<xs.length:=by
 unfold atI at h
 cases e:ixN xs.length i with
 |none=>rw[e]at h;cases h
 |some j=>
  rw[e]at h;obtain⟨h1,h2,h3,h4⟩:=zhh e;exact⟨j,h1,h,h2,h3,h4⟩
theorem qv{α:Type}{xs:List α}{j:Nat}{v:α}(h:xs[j]?=some v):atI xs (j:Int)=some v:=by
 have hj:j<xs.length:=(List.getElem?_eq_some_iff.mp h).1;have e:ixN xs.length (j:Int)=some j:=by
  unfold ixN;rw[if_pos (by omega),if_pos (by omega)];simp
 unfold atI;rw[e];exact h
theorem zep{α:Type}(xs:List α)(v:α):atI (xs ++ [v]) (-1)=some v:=by
 have hl:(xs ++ [v]).length=xs.length+1:=by simp
 have e:ixN (xs ++ [v]).length (-1)=some xs.length:=by
  unfold ixN;rw[hl,if_neg (by decide),if_pos (by omega)];congr 1;omega
 unfold atI;rw[e];show(xs ++ [v])[xs.length]?=some v;simp
def zdd(b:Expr):Prop:=∀o i,subscripted b false o i=operate [o,i] (getItem o i)
def IxR(X:Cx)(r:R2):Prop :=
 ∀(value slice:Expr) (pins:List (Addr×Obj)) (s:Shared) (σ:St) (H:Hp) (x y:V) (v u:Value) (Q:VK),Inv X pins σ H s->RelV x v->RelV y u->r x y H Q ->
  subscripted slice false v u=operate [v,u] (getItem v u)->wpAny (model X.prog X.w) X.A (subscriptTail value slice v u) (EP X pins σ Q) X.xe s
def MtR(X:Cx)(id:String)(r:V->List V->Hp->VK->Prop):Prop :=
 ∀(pins:List (Addr×Obj)) (s:Shared) (σ:St) (H:Hp) (x:V) (xs:List V) (v:Value) (us:List Value) (Q:VK),Inv X pins σ H s->RelV x v->Vals xs us->r x xs H Q ->
  wpAny (model X.prog X.w) X.A (call (.builtin id) (v::us)) (EP X pins σ Q) X.xe s
section
variable {X:Cx}{a b:Expr}{ta tb:TE}{pos:Pos}
theorem IxR.or{r r':R2}(h:IxR X r)(h':IxR X r'):IxR X (λx y H Q=>r x y H Q\/r' x y H Q):=by
 intro value slice pins s σ H x y v u Q I rx ry q hs;rcases q with q|q
 ·exact h value slice pins s σ H x y v u Q I rx ry q hs
 ·exact h' value slice pins s σ H x y v u Q I rx ry q hs
theorem zao{r:R2}(hr:IxR X r)(ha:PE X a ta)(hb:PE X b tb)(hs:zdd b):PE X (.Subscript a b pos) (tOp r ta tb):=by
 intro pins s σ H Q I h;exact Subscript_ (zsp ha hb I h λv u s2 x y H2 I2 rx ry q=>hr a b pins s2 σ H2 x y v u Q I2 rx ry q (hs _ _))
def zs4(K:PySem.W.Frag):R2:=λx y H Q=>∃p xs i v,x=.ref p/\y=.int i/\SqL K H p xs/\atI xs i=some v/\Q v H
def zs5(K:PySem.W.Frag):R2:=λx y H Q=>∃p xs i v,x=.ref p/\y=.int i/\SqT K H p xs/\atI xs i=some v/\Q v H
def zs6:R2:=λx y H Q=>∃z i c,x=.str z/\y=.int i/\z.length<=sizeLine/\atI z.cps.toList i=some c/\Q (.str ⟨#[c]⟩) H
theorem ix_list:IxR X (zs4 X.K):=by
 intro value slice pins s σ H x y v u Q I rx ry h hs;obtain⟨p,xs,i,z,rfl,rfl,hq,he,q⟩:=h
 cases rx;obtain⟨t,rfl⟩:=ry;obtain⟨its,r,pl,hz⟩:=I.list hq;obtain⟨j,h1,h2,h3,h4,h5⟩:=zdc he;obtain⟨w,ew,rw'⟩:=r.get h2;have hl:=r.length;have hn:=kl;have fin:EP X pins σ Q w s:=⟨z,H,I,rw',q⟩
 by_cases h0:0<=i
 ·have hj:i.toNat=j:=by
   rw[seqIndex_of h0 h5]at h1;exact Option.some.inj h1
  exact item_listR pl.isList h0 (by omega) (by rw[hj];simpa using ew) fin hs
 ·have hj:(i+(its.toArray.size:Int)).toNat=j:=by
   rw[seqIndex_neg (by omega) h4]at h1;rw[List.size_toArray,<-hl];exact Option.some.inj h1
  exact subscriptTail_builtinR (x:=w) pl.isList.typeIs slot_list_getitem.lookup
   (wpAny_getItem_list_neg (Q:=λr s'=>r=w/\EP X pins σ Q r s') pl.isList (by omega) (by rw[List.size_toArray] <;> omega) (by omega) (by rw[hj];simpa using ew) ⟨rfl,fin⟩) hs
theorem ix_tup:IxR X (zs5 X.K):=by
 intro value slice pins s σ H x y v u Q I rx ry h hs;obtain⟨p,xs,i,z,rfl,rfl,hq,he,q⟩:=h
 cases rx;obtain⟨t,rfl⟩:=ry;obtain⟨its,r,pl,hz⟩:=I.tuple hq;obtain⟨j,h1,h2,h3,h4,h5⟩:=zdc he;obtain⟨w,ew,rw'⟩:=r.get h2;have hl:=r.length;have hn:=kl;have fin:EP X pins σ Q w s:=⟨z,H,I,rw',q⟩
 exact subscriptTail_builtinR (x:=w) pl.typeIs slot_tuple_getitem.lookup
  (getItem_tuple (j:=j) (Q:=λr s'=>r=w/\EP X pins σ Q r s') pl (by omega) (by omega) (by rw[List.size_toArray,<-hl];exact h1) (by simpa using ew) ⟨rfl,fin⟩) hs
theorem zp5:IxR X zs6:=by
 intro value slice pins s σ H x y v u Q I rx ry h hs;obtain⟨z,i,c,rfl,rfl,hz,he,q⟩:=h;obtain⟨t,rfl⟩:=rx;obtain⟨t',rfl⟩:=ry;obtain⟨j,h1,h2,h3,h4,h5⟩:=zdc he;have hl:z.cps.toList.length=z.length:=by simp[Str.length]
 rw[hl]at h1 h4 h5;have hn:=kl;exact tail_any (typeIs_str s z t) slot_str_getitem.lookup (getItem_str (c:=c) (by
  have e1:decide (i < -(2 ^ 63:Int))=false:=decide_eq_false (by omega);have e2:decide (i ≥ 2 ^ 63)=false:=decide_eq_false (by omega);rw[e1,e2,Bool.or_false]) (by rw[h1];simpa using h2) ⟨.str ⟨#[c]⟩,H,I.tok _,⟨_,rfl⟩,q⟩) hs
def rIx(K:PySem.W.Frag):R2:=λx y H Q=>zs4 K x y H Q\/zs5 K x y H Q\/zs6 x y H Q
theorem zp6:IxR X (rIx X.K):=ix_list.or (ix_tup.or zp5)
theorem zf8(its:List Value)(n j:Nat)(u:Value):Obj.mapSeq (·.setIfInBounds j u) { cls:=.type "list",data:=.seq its.toArray n } = { cls:=.type "list",data:=.seq (its.set j u).toArray n }:=by
 simp[Obj.mapSeq]
theorem Inv.lst{pins:List (Addr×Obj)}{σ:St}{H:Hp}{s:Shared}{p:Addr}{xs:List V}(I:Inv X pins σ H s)(h:H p=some (.lst xs)):
  ∃(its:List Value) (n:Nat),Vals xs its/\s.heap.get? p=some { cls:=.type "list",data:=.seq its.toArray n }/\xs.length<=sizeLine:=by
 obtain⟨z,its,n,r,e⟩:=I.hok p _ h;exact⟨its,n,r,e,z⟩
theorem Inv.lstUpd{pins:List (Addr×Obj)}{σ:St}{H:Hp}{s:Shared}{p:Addr}{xs ys:List V}{its its':List Value}{n n':Nat}{f:Obj->Obj}(I:Inv X pins σ H s)(h:H p=some (.lst xs))
  (ho:s.heap.get? p=some { cls:=.type "list",data:=.seq its.toArray n }) (hf:f { cls:=.type "list",data:=.seq its.toArray n } = { cls:=.type "list",data:=.seq its'.toArray n' }) (r:Vals ys its') (hz:ys.length<=sizeLine) (t:Nat) :
  Inv X pins σ (upd H p (.lst ys)) { s with heap:=s.heap.update p f,toks:=t }:=by
 have e:(s.heap.update p f).get? p=some { cls:=.type "list",data:=.seq its'.toArray n' }:=by
  rw[Heap.get?_update_self f ho (by rw[hf] <;> rfl),hf]
 refine I.write (x:=p) (e:=p) (by rw[h];trivial) (.inl rfl) (λb u hb q=>(Heap.get?_update_other _ _ (Ne.symm hb)).trans q) ⟨_,e⟩ ?_;exact⟨hz,its',n',r,e⟩
def zs7:V->V->V->Hp->(Hp->Prop)->Prop:=λo i v H Q=>∃p xs k j,o=.ref p/\i=.int k/\H p=some (.lst xs)/\ixN xs.length k=some j/\Q (upd H p (.lst (xs.set j v)))
theorem zeq:zsl X zs7:=by
 intro pins s σ H o i v ov iv u Q I ro ri rv h;obtain⟨p,xs,k,j,rfl,rfl,hp,hj,q⟩:=h
 cases ro;obtain⟨t,rfl⟩:=ri;obtain⟨its,n,r,ho,hz⟩:=I.lst hp;obtain⟨h1,h2,h3,h4⟩:=zhh hj;have hl:=r.length;have hn:=kl;have I':Inv X pins σ (upd H p (.lst (xs.set j v))) { s with heap:=s.heap.update p (Obj.mapSeq (·.setIfInBounds j u)) } :=
  I.lstUpd hp ho (zf8 its n j u) (r.set rv j) (by rw[List.length_set];exact hz) s.toks
 by_cases h0:0<=k
 ·have hk:k.toNat=j:=by
   rw[seqIndex_of h0 h4]at h1;exact Option.some.inj h1
  exact PySem.W.ki_setAt ho h0 (by omega) (by rw[List.size_toArray,<-hl];exact h4) (by rw[hk];exact⟨_,I',q⟩)
 ·have hk:(k+(its.toArray.size:Int)).toNat=j:=by
   rw[seqIndex_neg (by omega) h3]at h1;rw[List.size_toArray,<-hl];exact Option.some.inj h1
  exact PySem.W.ki_setBack ho (by omega) (by rw[List.size_toArray,<-hl];exact h3) (by omega) (by rw[hk];exact⟨_,I',q⟩)
theorem zde(lo hi:Option Int)(n:Nat):(sliceBounds lo hi none n).1=((HT.sIx n 0 lo:Nat):Int)/\(sliceBounds lo hi none n).2.1=((HT.sIx n n hi:Nat):Int)/\(sliceBounds lo hi none n).2.2=1:=by
 refine⟨?_,?_,rfl⟩
 ·cases lo with
  |none=>simp[sliceBounds,HT.sIx]
  |some i=>
   simp only[sliceBounds,HT.sIx,Option.getD_none,show(1:Int) > 0 by decide,if_true]
   by_cases h:i<0
   ·simp only[h,if_true] <;> omega
   ·simp only[h,if_false] <;> omega
 ·cases hi with
  |none=>simp[sliceBounds,HT.sIx]
  |some i=>
   simp only[sliceBounds,HT.sIx,Option.getD_none,show(1:Int) > 0 by decide,if_true]
   by_cases h:i<0
   ·simp only[h,if_true] <;> omega
   ·simp only[h,if_false] <;> omega
theorem zb8(its:List Value)(lo hi:Option Int):slicePick its.toArray lo hi none=((its.drop (HT.sIx its.length 0 lo)).take (HT.sIx its.length its.length hi-HT.sIx its.length 0 lo)).toArray:=by
 obtain⟨h1,h2,h3⟩:=zde lo hi its.toArray.size;unfold slicePick;rw[h1,h2,h3];simp only[sliceRange_one,pick_run,List.size_toArray] <;> rfl
def zul(K:PySem.W.Frag):V->Option Int->Option Int->Hp->VK->Prop:=λx lo hi H Q=>∃a xs,x=.ref a/\SqL K H a xs/\∀p,H p=none->Q (.ref p) (upd H p (.lst (zik xs lo hi)))
theorem zmz:SlR X (zul X.K):=by
 intro pins s σ H x v vl vu lo hi sl Q I rx hs pl pu h;obtain⟨a,xs,rfl,hx,q⟩:=h
 cases rx;obtain⟨its,r,ht,hz⟩:=I.list hx;have hlen:=r.length;refine⟨"list",_,slot_list_getitem.lookup,ht.isList.typeIs,?_⟩;refine wpAny_getItem_list_slice ht.isList hs pl pu .none (by simp) ?_ (by rw[List.size_toArray] <;> omega);rw[zb8,<-hlen];refine⟨.ref s.heap.objs.size,_,I.laid (t':=s.toks) (o:=.lst (zik xs lo hi)) (λb ob q=>Heap.get?_push_of_some _ q) (Nat.le_refl _) ?_,rfl,q _ (I.hok.fresh (Nat.le_refl _))⟩;exact⟨Nat.le_trans (zeo xs lo hi) hz,_,0,(r.drop (HT.sIx xs.length 0 lo)).take (HT.sIx xs.length xs.length hi-HT.sIx xs.length 0 lo),Heap.get?_push_size _ rfl⟩
theorem zdf:wd X (.builtin "len") (λxs H Q=>∃p ys,xs = [.ref p]/\(SqL X.K H p ys\/SqT X.K H p ys)/\Q (.int ys.length) H):=by
 intro pins s σ H xs us Q I r h;obtain⟨p,ys,rfl,hq,q⟩:=h;obtain⟨u,rfl,rx⟩:=zcp r
 cases rx;have hn:=kl;rcases hq with hq|hq
 ·obtain⟨its,r',pl,hz⟩:=I.list hq;have hlen:=r'.length;exact Calls.call_len_list pl.isList (by simp only[List.size_toArray] <;> omega) ⟨.int ys.length,H,I.tok _,⟨s.toks+1,by rw[List.size_toArray,hlen]⟩,q⟩
 ·obtain⟨its,r',pl,hz⟩:=I.tuple hq;have hlen:=r'.length;exact len_tuple pl (by simp only[List.size_toArray] <;> omega) ⟨.int ys.length,H,I.tok _,⟨s.toks+1,by rw[List.size_toArray,hlen]⟩,q⟩
theorem zb9:wd X (.type "tuple") (λxs H Q=>∃p ys,xs = [.ref p]/\((SqL X.K H p ys/\∀l,H l=none->Q (.ref l) (upd H l (.tup ys)))\/(SqT X.K H p ys/\Q (.ref p) H))):=by
 intro pins s σ H xs us Q I r h;obtain⟨p,ys,rfl,h⟩:=h;obtain⟨u,rfl,rx⟩:=zcp r
 cases rx;rcases h with⟨hq,q⟩ |⟨hq,q⟩
 ·obtain⟨its,r',pl,hz⟩:=I.list hq;have hlen:=r'.length;refine call_tuple_list pl.isList (λh' kp=>?_) (by simp only[List.size_toArray] <;> omega);have I1:Inv X pins σ H { s with heap:=h' }:=I.kept (t':=s.toks) kp
  have I2:Inv X pins σ (upd H h'.objs.size (.tup ys)) { s with heap:=h'.push { cls:=.type "tuple",data:=.seq its.toArray } } :=
   I1.laid (t':=s.toks) (λb o e=>Heap.get?_push_of_some _ e) (Nat.le_refl _) (show ObjOk X.prog X.w _ _ _ (.tup ys) from⟨hz,its,r',TupD.new _ _⟩)
  exact⟨.ref h'.objs.size,_,I2,rfl,q _ (I1.hok.fresh (Nat.le_refl _))⟩
 ·obtain⟨its,r',pl,hz⟩:=I.tuple hq;exact call_tuple_same pl ⟨.ref p,H,I,rfl,q⟩
def tyV(K:PySem.W.Frag)(T:String)(x:V)(H:Hp):Prop:=match x with
 |.str _=>T = "str"
 |.int _=>T = "int"
 |.ref p=>(T = "list" /\ ∃xs,SqL K H p xs)\/(T = "tuple" /\ ∃xs,SqT K H p xs) \/
   (T = "dict" /\((∃kvs,H p=some (.dK kvs))\/∃kvs,H p=some (.dT kvs)))\/(T = "set" /\ ∃S n,H p=some (.set S n))
 |_=>False
theorem zp7{pins:List (Addr×Obj)}{σ:St}{H:Hp}{s:Shared}{T:String}{x:V}{v:Value}(I:Inv X pins σ H s)(r:RelV x v)(ty:tyV X.K T x H):
  s.TypeIs v T/\∀a,v=.ref a->∃ob,s.heap.get? a=some ob/\ob.dict=none:=by
 cases x with
 |str z=>
  obtain⟨t,rfl⟩:=r
  cases (show T = "str" from ty);exact⟨typeIs_str s z t,λ_ e=>nomatch e⟩
 |int i=>
  obtain⟨t,rfl⟩:=r
  cases (show T = "int" from ty);exact⟨typeIs_int s i t,λ_ e=>nomatch e⟩
 |ref p=>
  cases r;rcases ty with⟨rfl,xs,hq⟩ |⟨rfl,xs,hq⟩ |⟨rfl,hk⟩ |⟨rfl,S,n,hk⟩
  ·obtain⟨its,_,pl,_⟩:=I.list hq;refine⟨pl.isList.typeIs,λa e=>?_⟩
   cases e;obtain⟨o,n,e,c,hd,_⟩:=pl;exact⟨o,e,hd⟩
  ·obtain⟨its,_,pl,_⟩:=I.tupleD hq;refine⟨pl.isTup.typeIs,λa e=>?_⟩
   cases e;obtain⟨o,e,_,_,hd⟩:=pl;exact⟨o,e,hd⟩
  ·have z:∃o,s.heap.get? p=some o/\o.ExactDict:=by
    rcases hk with⟨kvs,hk⟩ |⟨kvs,hk⟩
    ·obtain⟨_,_,_,_,o,_,_,e,ex,_⟩:=I.hok p _ hk;exact⟨o,e,ex⟩
    ·obtain⟨_,_,_,_,o,_,_,e,ex,_⟩:=I.hok p _ hk;exact⟨o,e,ex⟩
   obtain⟨o,e,ex⟩:=z;refine⟨⟨o,e,ex.1⟩,λa e2=>?_⟩
   cases e2;exact⟨o,e,ex.2.1⟩
  ·obtain⟨o,_,_,_,e,ex,_⟩:=I.hok p _ hk;refine⟨⟨o,e,ex.1⟩,λa e2=>?_⟩
   cases e2;exact⟨o,e,ex.2.1⟩
 |_=>exact False.elim ty
def tBM(K:PySem.W.Frag)(T:String)(r:V->List V->Hp->VK->Prop)(to:TE)(t:TA):TE:=λσ H Q=>to σ H λx H1=>tyV K T x H1/\t σ H1 λxs H2=>r x xs H2 Q
variable {o e:Expr}{es:List Expr}{to:TE}{t:TA}{name:Str}{apos cpos:Pos}{T id:String}{r:V->List V->Hp->VK->Prop}
theorem zjx(pa:PlainAttrs T)(slot:Slot T name id)(hty:typeOf (.builtin id)=pure (.type "method_descriptor"))(hm:MtR X id r)(ho:PE X o to)(ha:PA X (e::es) t)
  (hbase:attributeBase o name X.env (eval o X.env)=eval o X.env:=by rfl)
  (hfew:((backTo cpos (starEach (e::es) X.env)).all (λx=>!x.1) && (backToKw cpos (keywordEach [] X.env)).all (λx=>x.1.isSome)
   && decide ((e::es).length+([]:List Keyword).length+(if ([]:List Keyword).isEmpty then 0 else 1)<30))=true:=by rfl)
  (hline:(apos.endLine == cpos.line)=true:=by rfl) (hs:starEach (e::es) X.env=(false,eval e X.env)::starEach es X.env:=by rfl) (hplain:(backTo cpos (starEach es X.env)).any (·.1)=false:=by rfl) :
  PE X (.Call (.Attribute o name apos) (e::es) [] cpos) (tBM X.K T r to t):=by
 intro pins s σ H Q I h;refine wpAny_Call_method_late hbase hfew hline rfl (thn (ho pins s σ H _ I h) λv s1 ⟨x,H1,I1,r1,ty,q1⟩=>?_);obtain⟨h1,h2⟩:=zp7 I1 r1 ty;refine⟨T,id,pa,slot,hty,h1,h2,?_⟩;have hA:=ha cpos pins s1 σ H1 _ I1 q1;rw[hs]at hA ⊢;refine Calls.callWith_builtin (by show(false ||(backTo cpos (starEach es X.env)).any (·.1))=false;rw[hplain] <;> rfl) (Calls.evalArgs_plain ?_);exact thn hA λus s2 ⟨vs,H2,I2,r2,q2⟩=>hm pins s2 σ H2 x vs v us Q I2 r1 r2 q2
end
def MtM(X:Cx)(id:String)(r:V->List V->Hp->VK->Prop):Prop :=
 ∀(pins:List (Addr×Obj)) (s:Shared) (σ:St) (H:Hp) (x:V) (xs:List V) (v:Value) (us:List Value) (Q:VK),Inv X pins σ H s->RelV x v->Vals xs us->r x xs H Q ->
  wpAny (model X.prog X.w) X.A (call (.builtin id) (v::us)) (EP X pins σ Q) X.xe s
theorem Vals.one{x:V}{us:List Value}(h:Vals [x] us):∃u,us = [u]/\RelV x u:=by
 cases h with
 |cons r h=>cases h;exact⟨_,rfl,r⟩
theorem Vals.two{x y:V}{us:List Value}(h:Vals [x,y] us):∃u v,us = [u,v]/\RelV x u/\RelV y v:=by
 cases h with
 |cons r h=>obtain⟨v,rfl,q⟩:=Vals.one h;exact⟨_,v,rfl,r,q⟩
theorem Vals.zero:∀{us:List Value},Vals [] us->us = []
 |_,.nil=>rfl
theorem Vals.reverse{xs:List V}{us:List Value}(h:Vals xs us):Vals xs.reverse us.reverse:=by
 induction h with
 |nil=>exact .nil
 |cons r t ih=>rw[List.reverse_cons,List.reverse_cons];exact Vals.append ih (.cons r .nil)
theorem Vals.rep{xs:List V}{us:List Value}(h:Vals xs us):∀k:Nat,Vals (List.replicate k xs).flatten (List.replicate k us).flatten
 |0=>.nil
 |k+1=>by
  rw[List.replicate_succ,List.replicate_succ,List.flatten_cons,List.flatten_cons];exact Vals.append h (Vals.rep h k)
theorem zcu(its:List Value):∀(k:Nat) (acc:List Value),
  List.foldl (λx1 x2=>x1++x2) acc.toArray (List.replicate k its.toArray)=(acc++(List.replicate k its).flatten).toArray
 |0,acc=>by simp
 |k+1,acc=>by
  have e:acc.toArray++its.toArray=(acc++its).toArray:=by simp
  have e2:(acc++its)++(List.replicate k its).flatten=acc++(List.replicate (k+1) its).flatten:=by
   rw[List.replicate_succ,List.flatten_cons,List.append_assoc]
  rw[<-e2,<-zcu its k (acc++its),<-e,List.replicate_succ,List.foldl_cons]
section
variable {X:Cx}{pins:List (Addr×Obj)}{σ:St}{H:Hp}{s:Shared}{l b:Addr}{xs ys zs:List V}
theorem Inv.lset{its its':List Value}{n:Nat}{f:Array Value->Array Value}{t':Nat}(I:Inv X pins σ H s)(hH:H l=some (.lst xs))
  (e:s.heap.get? l=some { cls:=.type "list",data:=.seq its.toArray n }) (hf:f its.toArray=its'.toArray) (hv:Vals ys its') (hz:ys.length<=sizeLine) :
  Inv X pins σ (upd H l (.lst ys)) { s with heap:=s.heap.update l (Obj.mapSeq f),toks:=t' }:=by
 have q:=PySem.IsL.update e f;rw[hf]at q;refine I.write (x:=l) (e:=l) (by rw[hH];exact trivial) (.inl rfl) (λb' u hb hu=>(Heap.get?_update_other s.heap (Obj.mapSeq f) (Ne.symm hb)).trans hu) ⟨_,q⟩ ?_;exact⟨hz,its',_,hv,q⟩
theorem Inv.lnew{its:List Value}{t':Nat}(I:Inv X pins σ H s)(hv:Vals ys its)(hz:ys.length<=sizeLine):
  Inv X pins σ (upd H s.heap.objs.size (.lst ys)) { s with heap:=s.heap.push { cls:=.type "list",data:=.seq its.toArray },toks:=t' } :=
 I.laid (λ_ _ q=>Heap.get?_push_of_some _ q) (Nat.le_refl _) ⟨hz,its,0,hv,Heap.get?_push_size _ rfl⟩
theorem Inv.fresh(I:Inv X pins σ H s):H s.heap.objs.size=none:=I.hok.fresh (Nat.le_refl _)
theorem Inv.lstM(I:Inv X pins σ H s)(hH:H l=some (.lst xs)):xs.length<=sizeLine/\∃(its:List Value) (n:Nat),Vals xs its/\xs.length=its.length/\s.heap.get? l=some { cls:=.type "list",data:=.seq its.toArray n }:=by
 obtain⟨z,its,n,r,e⟩:=I.hok l _ hH;exact⟨z,its,n,r,r.length,e⟩
theorem zjy{n:Nat}(h:n<=sizeLine):Builtin.List.listTooLong n=false:=by
 unfold Builtin.List.listTooLong;exact decide_eq_false (by omega)
end
section
variable {X:Cx}
def zm0:V->List V->Hp->VK->Prop:=λx vs H Q=>∃l xs y,x=.ref l/\vs = [y]/\H l=some (.lst xs)/\xs.length<sizeLine/\Q .non (upd H l (.lst (xs ++ [y])))
theorem zcv:MtM X "list.append" zm0:=by
 intro pins s σ H x vs v us Q I rx rv h;obtain⟨l,xs,y,rfl,rfl,hH,hz,q⟩:=h
 cases rx;obtain⟨u,rfl,ru⟩:=rv.one;obtain⟨z,its,n,r,hl,e⟩:=I.lstM hH;refine call_meets F.slot_list_append ⟨_,e,rfl⟩ F.entry_list_append (F.args_list_append_2 _ _) (PySem.list_append l its.toArray n u (by rw[List.size_toArray];omega)) ⟨e,?_⟩;refine⟨.non,_,I.lset (its':=its ++ [u]) hH e (by simp) (r.append (.cons ru .nil)) ?_,rfl,q⟩;rw[List.length_append,List.length_singleton];omega
theorem zm1{α:Type}(xs:List α)(k:Nat):(List.replicate k xs).flatten.length=k * xs.length:=by
 induction k with
 |zero=>simp
 |succ k ih=>rw[List.replicate_succ,List.flatten_cons,List.length_append,ih,Nat.succ_mul,Nat.add_comm]
end
section
variable {prog:Program}{w:World}{A:Around}{E:Value->Shared->Prop}{s:Shared}
end
section
variable {X:Cx}
end
end L2
namespace Att
open PySem PySem.W PySem.Calls PyProof.Rows
theorem zat{P:Params}{h:Heap}:∀(ns:List Int) (vs:List Value),WellAll P h vs (ns.map WData.int)->IntsAre vs ns:=by
 intro ns
 induction ns with
 |nil=>
  intro vs w;rw[List.map_nil]at w
  cases w;exact .nil
 |cons n ns ih=>
  intro vs w;rw[List.map_cons]at w
  cases w with
  |cons a b=>
   cases a;exact .cons _ _ (ih _ b)
theorem zil{l:OpenLaw}{n:Nat}(hn:l.most=some n){P:Params}{h:Heap}{args:List WData}{vals:List Value}
  (hpre:l.row.toRowW.claim.pre args=true) (hwl:WellAll P h vals args) :
  ∃a vs ns,vals = [Value.ref a]/\args = [WData.list (ns.map WData.int)]/\h.get? a=some { cls:=.type "list",data:=.seq vs.toArray }/\IntsAre vs ns/\ns.length<=n:=by
 have hsh:WShape.hasAll [] args [.list .int]=true:=(pre_splitW hpre).1;have hc:l.pre.holds [] { args:=args }=true:=(pre_splitW hpre).2;obtain⟨d,r,rfl,h1,h2⟩:=hasAllW_cons hsh;obtain rfl:=hasAllW_nil h2;obtain⟨xs,rfl,h3⟩:=hasW_list h1;obtain⟨ns,rfl⟩:=items_int h3;have hlen:ns.length<=n:=by
  unfold OpenLaw.pre at hc;have h4:(WTm.not (.lt (.lit (.int (n:Int))) (.len (.arg 0)))).holds [] { args:=[.list (ns.map .int)] }=true:=by
   have h4:=(holds_andW hc).1;rw[hn]at h4;exact h4
  have h5:=condW_of h4 (w_not (w_lt w_lit (w_len_list (w_arg rfl))));rw[List.length_map]at h5;refine Nat.le_of_not_lt λq=>?_;have q':(n:Int)<((ns.length:Nat):Int):=by omega
  first
   |(rw[decide_eq_true q']at h5;exact absurd h5 (by decide))
   |(simp at h5;omega)
 cases hwl with
 |cons w1 w2=>
  cases w2
  cases w1 with
  |list ho hall=>exact⟨_,_,ns,rfl,rfl,ho,zat ns _ hall,hlen⟩
theorem zim(l:OpenLaw)(args:List WData):l.row.toRowW.claim.post args (.bool true) args=true :=
 postW_of (r:=l.row.toRowW) (X:=(true == true))
  (show WShape.has [] (.bool true) .bool=true by first|rfl|decide|simp[WShape.has,WShape.arms,WShape.armsAll])
  (show(WTm.eq .res (.lit (.bool true))).value [] { args:=args,res:=some (.bool true),after:=args }=some (.bool (true == true)) from w_eq_bool (w_res rfl) w_lit) rfl
theorem attach_call{l:OpenLaw}{n:Nat}{q:Program}{loose:List Str}{XP:(Str->Option Value)->Heap->Prop}{YP:World->Heap->Prop}{d:DefRec}
  (hn:l.most=some n) (hdf:d.params.defaults = [])
  (call:∀(w:World) (s₀ s₁:Shared) (mg mb:Str->Option Value) (fa:Addr) (o:Obj) (pm cd doc:Value) (a:Addr) (vs:List Value) (ns:List Int),
   Ground q loose [] XP w s₀ mg mb s₁.heap->YP w s₁.heap ->
   s₁.heap.get? fa=some o->o.data=.func (docDef d.name d.params d.body d.scope pm cd doc)->s₁.heap.CodeRec cd d.name->mg d.name=some (.ref fa) ->
   s₁.heap.get? a=some { cls:=.type "list",data:=.seq vs.toArray }->IntsAre vs ns->ns.length<=n->s₁.gens = #[] ->
   codeAny (model l.prog w) callerA (.call (.ref fa) ⟨[.ref a],[]⟩) (λr s'=>r=.ok (.ret (.bool true))/\OldK s₁.heap s'.heap/\s'.os=s₁.os/\AllBare s'.gens) s₁) :
  WalkO q loose XP YP l.row.toRowW d [] (λf vs=>PySem.call f vs):=by
 intro w s₀ s₁ mg mb G Y fa o pm cd doc dV kV ho hd hcd hD hmg hg args vals as hpre hlay hrd hwl hlo;obtain rfl:dV=.none:=Dflts.none hD hdf;obtain rfl:kV=.none:=Dflts.noKw hD;obtain⟨a,vs,ns,rfl,rfl,hobj,hints,hlen⟩:=zil hn hpre hwl;refine enter_call (codeAny_mono (call w s₀ s₁ mg mb fa o pm cd doc a vs ns G Y ho (fd_plain hd) hcd hmg hobj hints hlen hg) λr s' hq=>?_);obtain⟨rfl,h2,h3,h4⟩:=hq;exact⟨.inl ⟨.bool true,.bool true,[],rfl,λ_=>rfl,.bool true,zim l _,λ_=>⟨List.Pairwise.nil,λ_ hm=>(nomatch hm)⟩⟩,h2,h3,h4⟩
section
variable {prog:Program}{w:World}{A:Around}{E:Value->Shared->Prop}{s:Shared}{K:Frag}
end
end Att
namespace L2
open PySem PySem.Spec PyProof.Rows
theorem zcw:∀{vs:List Value}{ns:List Int},IntsAre vs ns->Vals (ns.map V.int) vs
 |_,_,.nil=>.nil
 |_,_,.cons n t h=>.cons ⟨t,rfl⟩ (zcw h)
def zp8(H:Hp):Prop:=∀b,H b=none\/∃o xs,H b=some (.frz o (.lst xs))
theorem zjz{P:Program}{w:World}{K:PySem.W.Frag}{mg mb:Str->Option Value}{CX:CXT}{k:Nat}{fa a:Addr}{fd:FuncData}{x:Str}{sp:Sp}{s₁:Shared}{vs:List Value}{ns:List Int}
  (KX:K.In s₁.heap) (hns:s₁.heap.Ns mainGlobals mg) (hb:s₁.heap.Ns builtinsNs mb) (hbb:∀x:Str,x ≠ "__name__" -> mb x=bootBuiltins x) (hlim:s₁.heap.NoLimit) (hg:s₁.gens = #[])
  (ha:s₁.heap.get? a=some { cls:=.type "list",data:=.seq vs.toArray }) (hi:IntsAre vs ns) (hl:ns.length<=sizeLine) (hr:Room k callerA)
  (F:∀base:Heap,K.In base->base.Ns mainGlobals mg->FnOk P w K mg base CX k fa fd [x] sp) (hbind:∀(s:Shared) (u:Value),BindsTo s fd ⟨[u],[]⟩ [(x,u)])
  (hsp:∀H:Hp,zp8 H->SqL K H a (ns.map V.int)->sp [.ref a] H (λv _=>v=.bl true) λ_ _ _=>False)
  (hCX:∀H e s',CX [] H s₁ (λ_ _ _=>False) e s'->False) :
  codeAny (model P w) callerA (.call (.ref fa) ⟨[.ref a],[]⟩) (λr s'=>r=.ok (.ret (.bool true))/\OldK s₁.heap s'.heap/\s'.os=s₁.os/\AllBare s'.gens) s₁:=by
 have rv:=zcw hi;have lenV:=hi.length
 -- from an abstract heap in which nothing but the script may be tracked
 have core:∀H:Hp,zp8 H->SqL K H a (ns.map V.int)->HOk P w H s₁.heap->(∀b,H b≠none->b=a)->(H a≠none->K.lookup a=none) ->
   codeAny (model P w) callerA (.call (.ref fa) ⟨[.ref a],[]⟩) (λr s'=>r=.ok (.ret (.bool true))/\OldK s₁.heap s'.heap/\s'.os=s₁.os/\AllBare s'.gens) s₁:=by
  intro H hO hS hok hA hK;have base_of:∀{b:Addr}{o:Obj},s₁.heap.get? b=some o->H b=none->(zc9 s₁.heap H).get? b=some o:=λe n=>zjf e n;have noA:∀{b:Addr}{o:Obj}{es:Array DictEntry}{ep:Nat},s₁.heap.get? b=some o->o.data=.dict es ep->H b=none:=λ{b o es ep} e d=>by
   cases q:H b with
   |none=>rfl
   |some u=>
    have e':b=a:=hA b (by rw[q];simp);subst e';rw[ha]at e;cases e;have d':Data.seq vs.toArray _=Data.dict es ep:=d
    cases d'
  have nsK:∀{b:Addr}{m:Str->Option Value},s₁.heap.Ns b m->(zc9 s₁.heap H).Ns b m:=λ{b m} ⟨o,es,ep,e,d,r⟩=>⟨o,es,ep,base_of e (noA e d),d,r⟩
  have hKb:K.In (zc9 s₁.heap H):=λb o e=>base_of (KX b o e) (by
   cases q:H b with
   |none=>rfl
   |some u=>
    have e':b=a:=hA b (by rw[q];simp);subst e';rw[hK (by rw[q];simp)]at e;cases e)
  have hM:Mod K mg (zc9 s₁.heap H):=⟨hKb,nsK hns,⟨mb,nsK hb,hbb⟩,let ⟨mc,h1,h2⟩:=hlim;⟨mc,nsK h1,h2⟩⟩
  have e0:Env0 P w K mg (zc9 s₁.heap H) callerA [] s₁ H:=⟨rfl,hM,λb o e=>zmi e,Nat.le_of_eq (zh8 _ _),trivial,λb hb=>absurd (show b∈([]:List Addr) from hb) (by simp),hok,.of_eq hg⟩
  refine codeAny_mono ((F _ hKb (nsK hns)).run callerA [] s₁ H ⟨[.ref a],[]⟩ [.ref a] [.ref a] _ _ hr e0 (hbind s₁ (.ref a)) (.cons rfl .nil) (hsp H hO hS)) λr s' h=>?_
  cases r with
  |error e=>exact(hCX H e s' h).elim
  |ok fl=>
   cases fl with
   |next=>exact False.elim h
   |brk=>exact False.elim h
   |cont=>exact False.elim h
   |ret u=>
    obtain⟨v,H',os,bare,un,hok',r',q⟩:=h;have q':v=.bl true:=q;subst q';obtain rfl:u=Value.bool true:=r';refine⟨rfl,OldK.of_keep λb o e=>?_,os,bare⟩
    cases q:H b with
    |none=>exact un.keep b o e q (by intro z;exact absurd (show b∈([]:List Addr) from z) (by simp)) (by simp)
    |some u=>
     rcases hO b with z |⟨ob,xs,z⟩
     ·rw[q]at z;cases z
     ·have z2:=un.frzs b ob _ z;obtain⟨e1,_⟩:=hok b _ z;obtain⟨e2,_⟩:=hok' b _ z2;rw[e]at e1;cases e1;exact e2
 cases hk:K.lookup a with
 |some o=>
  -- the script is one of the module's own objects
  have e:=KX a o hk;rw[ha]at e
  cases e;refine core (λ_=>none) (λ_=>.inl rfl) (.inr ⟨_,vs.toArray,_,hk,rfl,rfl,rfl,by rw[List.size_toArray,lenV];exact hl,by simpa using rv⟩) (λb u z=>by have z':(none:Option HO)=some u:=z;cases z') (λb z=>absurd rfl z) λz=>absurd rfl z
 |none=>
  refine core (λb=>if b=a then some (.frz { cls:=.type "list",data:=.seq vs.toArray } (.lst (ns.map V.int))) else none) (λb=>?_) (.inl (.inr ⟨{ cls:=.type "list",data:=.seq vs.toArray },if_pos rfl⟩)) (λb u z=>?_) (λb z=>?_) λ_=>hk
  ·by_cases hb:b=a
   ·exact .inr ⟨_,_,if_pos hb⟩
   ·exact .inl (if_neg hb)
  ·by_cases hb:b=a
   ·have z':=(if_pos hb).symm.trans z
    cases z';subst hb;exact⟨ha,by rw[List.length_map];exact hl,vs,_,rv,ha⟩
   ·have z':=(if_neg hb).symm.trans z
    cases z'
  ·by_cases hb:b=a
   ·exact hb
   ·exact absurd (if_neg hb) z
theorem walk_of{l:PySem.W.OpenLaw}{n k:Nat}{q:Program}{loose:List Str}{XP:(Str->Option Value)->Heap->Prop}{YP:World->Heap->Prop}{d:DefRec}{K:Params->PySem.W.Frag}{CX:World->CXT}{sp:World->Sp}{x:Str}
  (hn:l.most=some n) (hn2:n<=sizeLine) (hdf:d.params.defaults = []) (hr:Room k callerA)
  (hY:∀(w:World) (h:Heap),YP w h->(K w.params).In h)
  (F:∀(w:World) (mg:Str->Option Value) (fa:Addr) (h:Heap),(K w.params).In h->h.Ns mainGlobals mg->mg d.name=some (.ref fa) ->
   ∃fd:FuncData,(∀(s:Shared) (u:Value),BindsTo s fd ⟨[u],[]⟩ [(x,u)]) /\
    ∀base:Heap,(K w.params).In base->base.Ns mainGlobals mg->FnOk l.prog w (K w.params) mg base (CX w) k fa fd [x] (sp w))
  (hsp:∀(w:World) (H:Hp) (a:Addr) (ns:List Int),ns.length<=n->zp8 H->SqL (K w.params) H a (ns.map V.int)->sp w [.ref a] H (λv _=>v=.bl true) λ_ _ _=>False)
  (hCX:∀(w:World) (H:Hp) (s:Shared) (e:Value) (s':Shared),CX w [] H s (λ_ _ _=>False) e s'->False) :
  PySem.W.WalkO q loose XP YP l.row.toRowW d [] (λf vs=>PySem.call f vs):=by
 refine Att.attach_call hn hdf λw s₀ s₁ mg mb fa o pm cd doc a vs ns G Y ho hd hcd hmg hobj hints hlen hg=>?_;have KX:=hY w _ Y;obtain⟨fd,hb,hF⟩:=F w mg fa _ KX G.T.g hmg;exact zjz KX G.T.g G.T.b G.T.builtins G.T.nolimit hg hobj hints (Nat.le_trans hlen hn2) hr hF hb (λH hO hS=>hsp w H a ns hlen hO hS) λH e s'=>hCX w H s₁ e s'
def za1(s:Stmt)(j:Nat):Stmt:=match s with
 |.ClassDef _ _ _ body _ _ _ _ _ _ _=>body.getD j (.Pass ⟨0,0,0,0⟩)
 |_=>.Pass ⟨0,0,0,0⟩
def y8(s:Stmt):Arguments:=match s with
 |.FunctionDef _ a _ _ _ _ _ _ _ _=>a
 |_=>{ posonlyargs:=[],args:=[],vararg:=none,kwonlyargs:=[],kw_defaults:=[],kwarg:=none,defaults:=[] }
def yv(s:Stmt):List Stmt:=match s with
 |.FunctionDef _ _ b _ _ _ _ _ _ _=>b
 |_=>[]
def zi(s:Stmt):Scope:=match s with
 |.FunctionDef _ _ _ _ _ _ sc _ _ _=>sc
 |_=>{ kind:=.function,names:=[],isGenerator:=false,isCoroutine:=false }
abbrev CX0:CXT:=λ_ _ _ _ _ _=>False
abbrev E0:XK:=λ_ _ _=>False
theorem zj0{X:Cx}:j2 CX0 X E0:=λ_ _ _ _ _ _ _ h=>h.elim
structure Fun(K:PySem.W.Frag)(x qual:Str)(st:Stmt)(f:Addr)(fd:FuncData):Prop where
 ex:∃(oc:Value) (od:Option Addr) (kV doc pm:Value) (an:Option Addr) (cdv ct:Value) (osl:Array (Option Value)),
  fd=PySem.W.fnOf x qual (y8 st) (yv st) (zi st) .none kV doc pm an cdv ct/\K.lookup f=some ⟨oc,od,.func fd,osl⟩/\PySem.W.codeIn K cdv qual=true
 kp:PySem.W.keepIn K (.ref f)=true
section
variable {P:Program}{w:World}{K:PySem.W.Frag}{mg:Str->Option Value}{base:Heap}
theorem Fun.ok{x qual:Str}{st:Stmt}{f:Addr}{fd:FuncData}{N ps:List Str}{k:Nat}{sp:Sp}(F:Fun K x qual st f fd)(S:zp N ps (zi st))(len:∀vs H Q E,sp vs H Q E->vs.length=ps.length)
  (hbody:∀(cdv:Value) (A:Around) (outer:List Env) (s:Shared) (H:Hp) (vs:List V) (Q:VK) (E:XK),Room k (A.deeper (envOfC qual (zi st) s.heap.objs.size f cdv))->sp vs H Q E ->
   ∃t,PSs (zek CX0 P w K mg base N qual (zi st) f cdv A outer s H E).nox (yv st) t/\t { nx:=λ_ H'=>Q .non H',rt:=Q } (start N vs) H):FnOk P w K mg base CX0 (k+1) f fd ps sp:=by
 obtain⟨oc,od,kV,doc,pm,an,cdv,ct,osl,rfl,lk,hcd⟩:=F.ex;refine zs2 lk hcd S len λA outer s H vs Q E hr hsp=>?_;obtain⟨t,h,q⟩:=hbody cdv A outer s H vs Q E hr hsp;exact⟨t,h.nox,q⟩
theorem Fun.binds{x qual:Str}{st:Stmt}{f:Addr}{fd:FuncData}{ps:List Str}(F:Fun K x qual st f fd)
  (h:∀(kV doc pm:Value) (an:Option Addr) (cdv ct:Value) (us:List Value),us.length=ps.length->bindArgs (PySem.W.fnOf x qual (y8 st) (yv st) (zi st) .none kV doc pm an cdv ct) ⟨us,[]⟩=pure (ps.zip us)):Binds K fd ps []:=by
 obtain⟨oc,od,kV,doc,pm,an,cdv,ct,osl,rfl,lk,hcd⟩:=F.ex;exact .all (h kV doc pm an cdv ct)
theorem zbd{x qual:Str}{st:Stmt}{f:Addr}{oc:Value}{od an:Option Addr}{osl:Array (Option Value)}{kV doc pm cdv ct:Value}(l:K.lookup f=some ⟨oc,od,.func (PySem.W.fnOf x qual (y8 st) (yv st) (zi st) .none kV doc pm an cdv ct),osl⟩)
  (c:PySem.W.codeIn K cdv qual=true) (k:PySem.W.keepIn K (.ref f)=true):Fun K x qual st f (PySem.W.fnOf x qual (y8 st) (yv st) (zi st) .none kV doc pm an cdv ct):=⟨⟨oc,od,kV,doc,pm,an,cdv,ct,osl,rfl,l,c⟩,k⟩
end
section
variable {X:Cx}
theorem pv(i:Nat){x:Str}{pos:Pos}(hN:X.N[i]?=some x:=by rfl)(hv:Vis X.env.scope x:=by first|exact Or.inl rfl|exact Or.inr (Or.inl rfl)|exact Or.inr (Or.inr rfl))(hd:(x ==("__debug__" : Str))=false:=by decide)
  (hcd:(x ==("__classdict__" : Str))=false:=by decide):PE X (.Name x pos) (zsf i):=yp hN hv hd hcd
end
theorem zum{A B:Prop}(h:B):if false=true then A else B:=by
 rw[if_neg Bool.false_ne_true];exact h
theorem zs8{c A B:Prop}[Decidable c](h1:c->A)(h2:¬ c->B):if c then A else B:=by
 by_cases h:c
 ·rw[if_pos h];exact h1 h
 ·rw[if_neg h];exact h2 h
def Same(H H':Hp):Prop:=∀b o,H b=some o->H' b=some o
theorem Same.refl(H:Hp):Same H H:=λ_ _ h=>h
theorem Same.trans{H H1 H2:Hp}(a:Same H H1)(b:Same H1 H2):Same H H2:=λc o h=>b c o (a c o h)
theorem Same.free{H H':Hp}(e:Same H H'){l:Addr}(h:H' l=Option.none):H l=Option.none:=by
 cases q:H l with
 |none=>rfl
 |some o=>
  rw[e l o q]at h
  cases h
theorem Same.seq{K:PySem.W.Frag}{H H':Hp}{a:Addr}{xs:List V}(e:Same H H')(h:SqL K H a xs):SqL K H' a xs:=by
 rcases h with(h |⟨o,h⟩)|h
 ·exact .inl (.inl (e _ _ h))
 ·exact .inl (.inr ⟨o,e _ _ h⟩)
 ·exact .inr h
theorem gg{P:Prop}(h:∀G:Prop,(P->G)->G):P:=h P id
theorem zdg{prog:Program}{w:World}{A:Around}{R:Result->Shared->Prop}{s:Shared}{elt target iter:Expr}{ifs:List Expr}{scope:Scope}{pos:Pos}{it acc:Value}{env:Env}(I:Nat->Shared->Prop)
  (turn:∀n s,I n s->wpAny (model prog w) A (pyNext it) (λr s1=>match r with
   |none=>R (.ok .next) s1
   |some v=>wpAny (model prog w) A (letOwnedTupleGo target it v) (λ_ s1'=>wpAny (model prog w) A (assign target env v) (λ_ s2=>
     wpAny (model prog w) A (forIn ifs true λc r=>if r=true then do let ok <-isTrue c env (eval c env);pure (ForInStep.yield ok) else pure (ForInStep.yield r)) (λok s3=>
      if ok=true then wpAny (model prog w) A (eval elt env) (λx s4=>
       wpAny (model prog w) A (call (.builtin "list.append") [acc,x]) (λ_ s5=>∃m,m<n/\I m s5) (λ_ _=>False) s4) (λ_ _=>False) s3
      else ∃m,m<n/\I m s3) (λ_ _=>False) s2) (λ_ _=>False) s1') (λ_ _=>False) s1) (λ_ _=>False) s)
  (n:Nat) (h:I n s) :
  codeAny (model prog w) A (.compLoop (.ListComp elt [⟨target,iter,ifs,0⟩] scope pos) 0 it acc env) R s:=by
 refine codeAny_loop rfl I (λn s hI=>?_) n h;show wpAny _ A ((compTurn (.ListComp elt [⟨target,iter,ifs,0⟩] scope pos) 0 it acc env).onRaise (λx=>do noteFrame x env;theTreesLotGoes x)) _ _ s;refine wpAny_noted ?_;rw[compTurn_list];refine wpAny_bind (wpAny_standAt (wpAny_bind (wpAny_mono (turn n s hI) (λr s₁ h₁=>?_) λ_ _ h'=>h'.elim)))
 cases r with
 |none=>exact wpAny_pure h₁
 |some v=>
  refine wpAny_bind (wpAny_mono h₁ (λ_ s₁' h₁'=>?_) λ_ _ h'=>h'.elim);refine wpAny_bind (wpAny_mono h₁' (λ_ s₂ h₂=>wpAny_bind (wpAny_mono h₂ (λok s₃ h₃=>?_) λ_ _ h'=>h'.elim)) λ_ _ h'=>h'.elim)
  cases ok with
  |false=>exact wpAny_pure ⟨rfl,h₃⟩
  |true=>
   exact wpAny_bind (wpAny_bind (wpAny_mono h₃ (λx s₄ h₄=>wpAny_bind (wpAny_mono h₄ (λ_ s₅ h₅=>wpAny_pure (wpAny_pure ⟨rfl,h₅⟩)) λ_ _ h'=>h'.elim)) λ_ _ h'=>h'.elim))
inductive Capt(X:Cx)(scope:Scope)(cl:List (Str×Addr)):List Str->List Nat->Prop
 |nil:Capt X scope cl [] []
 |cons {x:Str}{j:Nat}{xs:List Str}{js:List Nat} (h1:X.N[j]?=some x) (h2:X.env.kindOf x=some .cell\/X.env.kindOf x=some .free) (h3:cl.lookup x=X.env.cells.lookup x)
  (h4:(relabel scope X.env).names.lookup x=some .cell\/(relabel scope X.env).names.lookup x=some .free) (t:Capt X scope cl xs js):Capt X scope cl (x::xs) (j::js)
theorem Capt.get{X:Cx}{scope:Scope}{cl:List (Str×Addr)}:∀{xs:List Str}{js:List Nat},Capt X scope cl xs js->xs.length=js.length/\∀(i:Nat) (x:Str) (j:Nat),xs[i]?=some x->js[i]?=some j->X.N[j]?=some x/\(X.env.kindOf x=some .cell\/X.env.kindOf x=some .free)/\cl.lookup x=X.env.cells.lookup x /\
  ((relabel scope X.env).names.lookup x=some .cell\/(relabel scope X.env).names.lookup x=some .free)
 |_,_,.nil=>⟨rfl,λi x j h=>by simp at h⟩
 |_,_,.cons h1 h2 h3 h4 t=>⟨by simp[t.get.1],λi x j hx hj=>by
  cases i with
  |zero=>simp at hx hj;subst hx hj;exact⟨h1,h2,h3,h4⟩
  |succ i=>exact t.get.2 i x j (by simpa using hx) (by simpa using hj)⟩
inductive SubC(X:Cx):List (Str×Addr)->Prop
 |nil:SubC X []
 |cons {x:Str}{c:Addr}{cl:List (Str×Addr)} (h:X.env.cells.lookup x=some c) (t:SubC X cl):SubC X ((x,c)::cl)
theorem SubC.of{X:Cx}:∀{cl:List (Str×Addr)},SubC X cl->∀x c,cl.lookup x=some c->X.env.cells.lookup x=some c
 |_,.nil,x,c,h=>by simp at h
 |_,.cons (x:=y) (c:=d) h0 t,x,c,h=>by
  rw[List.lookup_cons]at h
  cases e:x == y with
  |true=>
   rw[e]at h;have:x=y:=by simpa using e
   subst this;rw[h0];simpa using h
  |false=>rw[e]at h;exact t.of x c (by simpa using h)
def wl(X:Cx)(N':List Str)(scope:Scope)(cl:List (Str×Addr))(C:Addr)(fp:List Addr)(s2:Shared)(H2:Hp):Cx where
 prog:=X.prog
 w:=X.w
 K:=X.K
 mg:=X.mg
 base:=X.base
 A:=X.A
 N:=N'
 s₀:=s2
 H₀:=H2
 env:=compEnvC scope cl C X.env
 outer:=X.stack
 stack:=X.stack
 ex:=fp
 fn:=λ_=>false
 calm:=true
 pn:=[]
 xe:=λ_ _=>False
def yz(k:Nat)(js:List Nat)(σ:St):St:=List.replicate k none++js.map λj=>(σ[j]?).join
def PTs(X:Cx)(ifs:List Expr)(t:TT):Prop :=
 ∀(pins:List (Addr×Obj)) (s:Shared) (σ:St) (H:Hp) (Q:Bool->Hp->Prop),Inv X pins σ H s->t σ H Q ->
  wpAny (model X.prog X.w) X.A (forIn ifs true λc r=>if r=true then do let ok <-isTrue c X.env (eval c X.env);pure (ForInStep.yield ok) else pure (ForInStep.yield r)) (TP X pins σ Q) X.xe s
def zs9:TT:=λ_ H Q=>Q true H
theorem zm2{X:Cx}:PTs X [] zs9:=λ_ _ _ H _ I h=>wpAny_tests_nil ⟨H,I,h⟩
def zdh(J:It)(D:Addr)(g:TG)(tt:TT)(te:TE)(σ0:St)(H1:Hp)(Q:VK):Prop :=
 ∃W:Nat->Nat->St->Hp->Prop,(∃m,W 0 m σ0 (upd H1 D (.lst [])))/\∀i m σ H,W i m σ H ->
  (J.stop i H/\Q (.ref D) H)\/(J.go i H/\∀x H',J.yld i H x H'->g x σ H' λσ2 H2=>tt σ2 H2 λb H3=>
   if b=true then te σ2 H3 λy H4=>∃ys,H4 D=some (.lst ys)/\ys.length<sizeLine/\∃m',m' < m/\W (i+1) m' σ2 (upd H4 D (.lst (ys ++ [y])))
   else ∃m',m' < m/\W (i+1) m' σ2 H3)
def tLC(k:Nat)(js:List Nat)(wi:TI)(g:TG)(tt:TT)(te:TE):TE:=λσ H Q=>wi σ H λJ H1=>∀D,H1 D=none->zdh J D g tt te (yz k js σ) H1 Q
section
variable {X:Cx}
theorem zta{N':List Str}{scope:Scope}{cl:List (Str×Addr)}{fp:List Addr}{pins:List (Addr×Obj)}{σ:St}{H2:Hp}{s2:Shared}{C:Addr}(I:Inv X pins σ H2 s2)(hc:X.calm=true)(hkind:scope.kind=.function)(hC:s2.heap.objs.size<=C)
  (hsub:SubC X cl) (hhas:(relabel scope X.env).names.all (λp=>(p.2 != .cell && p.2 != .free) ||(cl.lookup p.1).isSome)=true)
  (hf:∀b∈fp,FpOk X pins H2 b) (ho:∀b∈fp,∃o,s2.heap.get? b=some o/\∀v,o.data ≠ .cell v):(wl X N' scope cl C fp s2 H2).Ok where
 mod:=I.ok.mod
 kind:=hkind
 glob:=I.ok.glob
 blt:=I.ok.blt
 above:=hC
 inj:=λx y c h1 h2=>I.ok.inj x y c (hsub.of x c h1) (hsub.of y c h2)
 has:=λx hx=>by
  have hx:(relabel scope X.env).names.lookup x=some .cell\/(relabel scope X.env).names.lookup x=some .free:=hx;have key:∀k,(relabel scope X.env).names.lookup x=some k->(k=.cell\/k=.free)->∃c,cl.lookup x=some c:=λk hk hkk=>by
   have hm:=PySem.mem_of_lookup hk;have:=List.all_eq_true.mp hhas _ hm;rcases hkk with rfl|rfl <;> exact Option.isSome_iff_exists.mp (by simpa using this)
  rcases hx with hx|hx
  ·exact key _ hx (.inl rfl)
  ·exact key _ hx (.inr rfl)
 cab:=λx c h=>by cases h
 hd:=λ_=>I.ok.hd hc
 frames:=I.ok.frames
 stk:=.inl rfl
 exf:=λb hb=>by
  obtain⟨o,e,_⟩:=ho b hb;obtain⟨f0,f1,f2,f3,f4,f5⟩:=hf b hb;exact⟨Nat.ne_of_lt (Nat.lt_of_lt_of_le (Heap.lt_size e) hC),λx c h=>f4 x c (hsub.of x c h)⟩
 bs:=I.bs
 bsz:=Nat.le_trans I.ok.bsz I.sz
 noex:=λb o e hb=>by
  obtain⟨f0,f1,f2,f3,f4,f5⟩:=hf b hb;rcases f3 with z|z
  ·exact I.ok.noex b o e z
  ·exact absurd (Nat.lt_of_lt_of_le (Heap.lt_size e) (Nat.le_trans I.ok.bsz z)) (Nat.lt_irrefl _)
 exfs:=λb hb z=>by
  obtain⟨f0,f1,f2,f3,f4,f5⟩:=hf b hb;exact(List.mem_cons.mp (I.stkSub b z)).elim f1 f2
 funs:=I.stack
 frf:=I.stkFree
theorem zj1{N' capt:List Str}{k:Nat}{js:List Nat}{scope:Scope}{cl:List (Str×Addr)}{fp:List Addr}{pins:List (Addr×Obj)}{σ:St}{H2:Hp}{s2:Shared}{D C:Addr}{h4:Heap}{t4:Nat}{m:Str->Option Value}(I:Inv X pins σ H2 s2)(ok:(wl X N' scope cl C fp s2 H2).Ok)
  (hD:s2.heap.objs.size<=D) (hC:s2.heap.objs.size<=C) (hDC:D≠C) (keep:∀b o,s2.heap.get? b=some o->h4.get? b=some o) (hns:h4.Ns C m)
  (hl:h4.get? D=some { cls:=.type "list",data:=.seq #[] 0 })
  (hsub:SubC X cl) (hcap:Capt X scope cl capt js) (hN:N'=N'.take k++capt) (hk:k<=N'.length) :
  Inv (wl X N' scope cl C fp s2 H2) [] (yz k js σ) (upd H2 D (.lst [])) { s2 with heap:=h4,toks:=t4 }:=by
 have below:∀b o,s2.heap.get? b=some o->b≠D/\b≠C:=λb o e=>⟨Nat.ne_of_lt (Nat.lt_of_lt_of_le (Heap.lt_size e) hD),Nat.ne_of_lt (Nat.lt_of_lt_of_le (Heap.lt_size e) hC)⟩
 have hlen:N'.length=k+capt.length:=by
  have:=congrArg List.length hN;rw[List.length_append,List.length_take]at this;omega
 refine⟨ok,rfl,I.bare,Un.laid keep hD (I.hok.fresh hD),⟨m,hns,λi x v h1 h2 h3=>?_⟩,λx c h=>?_,?_,λx c h=>?_,λp hp=>absurd (show p∈([]:List (Addr×Obj)) from hp) (by simp),?_,?_⟩
 ·have h1:N'[i]?=some x:=h1;unfold yz at h2
  by_cases hi:i<k
  ·rw[List.getElem?_append_left (by simpa using hi),List.getElem?_replicate]at h2;rw[if_pos hi]at h2
   cases h2
  ·rw[List.getElem?_append_right (by simpa using hi),List.length_replicate,List.getElem?_map]at h2
   have hx:capt[i-k]?=some x:=by
    rw[hN,List.getElem?_append_right (by rw[List.length_take];omega),List.length_take]at h1;rw[show min k N'.length=k by omega]at h1;exact h1
   cases ej:js[i-k]? with
   |none=>rw[ej]at h2;cases h2
   |some j=>
    rw[ej]at h2;have h2':(σ[j]?).join=some v:=Option.some.inj h2;obtain⟨q1,q2,q3,q4⟩:=hcap.get.2 _ _ _ hx ej;have hv:σ[j]?=some (some v):=by
     cases e:σ[j]? with
     |none=>rw[e]at h2';cases h2'
     |some o=>rw[e]at h2';cases o with
      |none=>cases h2'
      |some v'=>simpa using h2'
    obtain⟨m0,hn0,hl0⟩:=I.loc;obtain⟨u,r,l⟩:=hl0 j x v q1 hv (by rcases q2 with z|z;exact .inr (.inl z);exact .inr (.inr z));refine⟨u,r,?_⟩;rcases l with⟨z,_⟩ |⟨_,c,e,o,z1,z2⟩
    ·rcases q2 with q|q <;> · rw[q]at z;cases z
    ·exact .inr ⟨q4,c,q3.trans e,o,keep c o z1,z2⟩
 ·obtain⟨v,o,z1,z2⟩:=I.cell x c (hsub.of x c h);exact⟨v,o,keep c o z1,z2⟩
 ·show upd H2 D (.lst []) C=none;rw[zj (Ne.symm hDC)];exact I.hok.fresh hC
 ·obtain⟨v,o,z1,z2⟩:=I.cell x c (hsub.of x c h);show upd H2 D (.lst []) c=none;rw[zj (below c o z1).1];exact I.freeC x c (hsub.of x c h)
 ·exact I.hok.laid keep hD ⟨Nat.zero_le _,[],0,.nil,hl⟩
 ·show(yz k js σ).length=N'.length;unfold yz;rw[List.length_append,List.length_replicate,List.length_map,hlen,hcap.get.1]
structure zp9(X:Cx)(scope:Scope)(cl:List (Str×Addr))(N' capt:List Str)(k:Nat)(js:List Nat):Prop where
 clos:closureFor scope X.env=pure cl
 cell:∀y∈scope.names,y.2 ≠ .cell
 kind:scope.kind=.function
 names:∀y∈scope.names,y.2=.local->scope.names.lookup y.1=some .local
 sub:SubC X cl
 has:(relabel scope X.env).names.all (λp=>(p.2 != .cell && p.2 != .free) ||(cl.lookup p.1).isSome)=true
 cap:Capt X scope cl capt js
 hN:N'=N'.take k++capt
 hk:k<=N'.length
def LcEnd(X:Cx)(pins:List (Addr×Obj))(σ:St)(Q:VK)(acc:Value)(C:Addr)(r:Result)(s':Shared):Prop :=
 ∃(f:Flow) (D:Addr) (H':Hp) (m:Str->Option Value),r=.ok f/\acc=.ref D/\Inv X pins σ H' s'/\Q (.ref D) H'/\s'.heap.Ns C m/\H' C=none/\C≠X.env.locals/\X.s₀.heap.objs.size<=C/\(∀x c,X.env.cells.lookup x=some c->c≠C)/\∀p∈X.pn++pins,p.1≠C
theorem LcEnd.let_go{pins:List (Addr×Obj)}{σ':St}{H':Hp}{C:Addr}{s'':Shared}{h':Heap}(I:Inv X pins σ' H' s'')(hn:H' C=none)(h1:C≠X.env.locals)(h2:X.s₀.heap.objs.size<=C)(h3:∀x c,X.env.cells.lookup x=some c->c≠C)(h4:∀p∈X.pn++pins,p.1≠C)
  (hs:Heap.SameBut C s''.heap h'):Inv X pins σ' H' { s'' with heap:=h' } :=
 I.turned (t':=s''.toks) (λb o hb e=>(hs.2 b hb).trans e) hn h1 (.inr h2) h3 h4
theorem zj2{elt tg iter:Expr}{ifs:List Expr}{scope:Scope}{pos:Pos}{cl:List (Str×Addr)}{N' capt:List Str}{k:Nat}{js:List Nat}{g:TG}{tt:TT}{te:TE}{J:It}{fp:List Addr}{tn:Nat->Heap->Prop}{it:Addr}
  {pins:List (Addr×Obj)}{σ:St}{H2:Hp}{s2:Shared}{Q:VK}{E:Value->Shared->Prop} (hc:X.calm=true) (L:zp9 X scope cl N' capt k js)
  (hg:∀C fp s2 H2,PG (wl X N' scope cl C fp s2 H2) tg g) (ht:∀C fp s2 H2,PTs (wl X N' scope cl C fp s2 H2) ifs tt) (he:∀C fp s2 H2,PE (wl X N' scope cl C fp s2 H2) elt te)
  (I2:Inv X pins σ H2 s2) (T:zeh X.prog X.w X.K tg J fp it tn) (st2:tn 0 s2.heap) (f2:∀b∈fp,FpOk X pins H2 b) (q:∀D,H2 D=none->zdh J D g tt te (yz k js σ) H2 Q) :
  wpAny (model X.prog X.w) X.A (newList []) (λacc s3=>wpAny (model X.prog X.w) X.A (newFunctionEnv scope X.env.globals cl [] X.env.qual none .none (some X.env)) (λcenv s4=>
   codeAny (model X.prog X.w) X.A (.compStart (.ListComp elt [⟨tg,iter,ifs,0⟩] scope pos) 0 (.ref it) acc { cenv with scope:=relabel scope X.env }) (LcEnd X pins σ Q acc cenv.locals) s4) E s3) E s2:=by
 refine wpAny_newObj_type (wpAny_newFunctionEnv L.cell (by intro y hy;simp at hy) (λh₁ hns₁ hsb₁=>?_) L.kind);dsimp only at hns₁ hsb₁ ⊢;generalize hH2:s2.heap.push { cls:=.type "list",dict:=none,data:=.seq ([]:List Value).toArray }=G at hns₁ hsb₁ ⊢;have hC:G.objs.size=s2.heap.objs.size+1:=by rw[<-hH2,Heap.size_push]
 have hDC:s2.heap.objs.size≠G.objs.size:=by rw[hC];exact Nat.ne_of_lt (Nat.lt_succ_self _)
 have hCle:s2.heap.objs.size<=G.objs.size:=by rw[hC];exact Nat.le_succ _
 have below:∀b,b<s2.heap.objs.size->b≠G.objs.size:=λb hb=>by rw[hC];exact Nat.ne_of_lt (Nat.lt_succ_of_lt hb)
 have keep:∀b o,s2.heap.get? b=some o->h₁.get? b=some o:=λb o e=>hsb₁.extBut b o (below b (Heap.lt_size e)) (Heap.get?_push_of_some _ (hH2 ▸ Heap.get?_push_of_some _ e));have hl:h₁.get? s2.heap.objs.size=some { cls:=.type "list",data:=.seq #[] 0 }:=hsb₁.extBut _ _ hDC (Heap.get?_push_of_some _ (hH2 ▸ Heap.get?_push_size _ rfl));have ho2:=T.obj _ _ st2;have ok:(wl X N' scope cl G.objs.size fp s2 H2).Ok:=zta I2 hc L.kind hCle L.sub L.has f2 ho2;generalize hD:s2.heap.objs.size=D at hl hDC ⊢;generalize hCC:G.objs.size=C at hns₁ hsb₁ hDC hC hCle below ok ⊢;have hDle:s2.heap.objs.size<=D:=by rw[hD];exact Nat.le_refl _
 have I4:Inv (wl X N' scope cl C fp s2 H2) [] (yz k js σ) (upd H2 D (.lst [])) { s2 with heap:=h₁,toks:=s2.toks+([]:List (Str×Value)).length } :=
  zj1 I2 ok hDle hCle hDC keep hns₁ hl L.sub L.cap L.hN L.hk
 obtain⟨W,⟨m0,w0⟩,turn⟩:=q D (I2.hok.fresh hDle);have tn0:tn 0 h₁:=T.keep _ _ _ st2 λb _ o e=>keep b o e;have fr0:∀b∈fp,upd H2 D (.lst []) b=none:=λb hb=>by
  obtain⟨o,e,_⟩:=ho2 b hb;rw[zj (Nat.ne_of_lt (Nat.lt_of_lt_of_le (Heap.lt_size e) hDle))];exact(f2 b hb).1
 have stat:∀{H':Hp},(∀b∈fp,H' b=none)->∀b∈fp,FpOk (wl X N' scope cl C fp s2 H2) [] H' b:=λhn b hb=>by
  refine⟨hn b hb,(ok.exf b hb).1,ok.exfs b hb,.inl hb,(ok.exf b hb).2,λp hp=>absurd (show p∈([]:List (Addr×Obj)) from hp) (by simp)⟩
 have loop:∀s₃:Shared,s₃ = { s2 with heap:=h₁,toks:=s2.toks+([]:List (Str×Value)).length } ->
   codeAny (model X.prog X.w) X.A (.compLoop (.ListComp elt [⟨tg,iter,ifs,0⟩] scope pos) 0 (.ref it) (.ref D) (compEnvC scope cl C X.env)) (LcEnd X pins σ Q (.ref D) C) s₃:=by
  rintro s₃ rfl;refine zdg (λn s'=>∃i σ' H',Inv (wl X N' scope cl C fp s2 H2) [] σ' H' s'/\tn i s'.heap/\(∀b∈fp,H' b=none)/\W i n σ' H') ?_ m0 ⟨0,_,_,I4,tn0,fr0,w0⟩;intro n s3 zz;refine gg λG zk=>?_;obtain⟨i,σ3,H3,I3,st3,fr3,w3⟩:=zz;refine zk ?_;clear zk;rcases turn i n σ3 H3 w3 with⟨stop,qn⟩ |⟨go,step⟩
  ·refine thn (T.done (wl X N' scope cl C fp s2 H2) rfl rfl rfl rfl i [] s3 σ3 H3 (λ_ _=>False) I3 (stat fr3) st3 stop) λr s4 ⟨hr,J4⟩=>?_;subst hr;obtain⟨m,hn,_⟩:=id J4.loc;have hs:X.s₀.heap.objs.size<=C:=Nat.le_trans I2.sz hCle;refine⟨.next,D,H3,m,rfl,rfl,I2.call' (ch:=fp) J4.os J4.base J4.hok J4.bare (λb hb=>?_),qn,hn,J4.free,λz=>?_,hs,λx c h z=>?_,λp hp z=>?_⟩
   ·obtain⟨f0,f1,f2',f3,f4,f5⟩:=f2 b hb;exact⟨f3,f1,f4,f5⟩
   ·have:=I2.lt;rw[<-z]at this;exact absurd (Nat.lt_of_lt_of_le this hCle) (Nat.lt_irrefl _)
   ·obtain⟨v,o,z1,_⟩:=I2.cell x c h;have:=Heap.lt_size z1;rw[z]at this;exact absurd (Nat.lt_of_lt_of_le this hCle) (Nat.lt_irrefl _)
   ·have:=Heap.lt_size (I2.pin p hp).1;rw[z]at this;exact absurd (Nat.lt_of_lt_of_le this hCle) (Nat.lt_irrefl _)
  ·refine thn (T.item (wl X N' scope cl C fp s2 H2) rfl rfl rfl rfl i [] s3 σ3 H3 (λ_ _=>False) I3 (stat fr3) st3 go) λr s4 ⟨u,hr,h4⟩=>?_;subst hr;refine thn h4 λ_ s5 zr4=>?_;obtain⟨x,H5,I5,r5,y5,st5,fr5⟩:=zr4;have I5':=I5.pinned (stat fr5) (T.obj _ _ st5);refine thn (hg C fp s2 H2 _ s5 σ3 H5 x u _ I5' r5 (step x H5 y5)) λ_ s6 zr6=>?_;obtain⟨σ6,H6,I6,q6⟩:=zr6;refine thn (ht C fp s2 H2 _ s6 σ6 H6 _ I6 q6) λok s7 ⟨H7,I7,q7⟩=>?_
   have again:∀{H8:Hp}{s8:Shared},Inv (wl X N' scope cl C fp s2 H2) ([]++za9 fp s5.heap) σ6 H8 s8->(∃m',m' < n/\W (i+1) m' σ6 H8)->∃m,m<n/\∃i σ' H',Inv (wl X N' scope cl C fp s2 H2) [] σ' H' s8/\tn i s8.heap/\(∀b∈fp,H' b=none)/\W i m σ' H':=λ{H8 s8} I8 n8=>by
    obtain⟨m',hm,w8⟩:=n8;refine⟨m',hm,i+1,σ6,H8,I8.unpinned,T.keep _ _ _ st5 λb hb o e=>(I8.pin (b,o) (List.mem_append_right _ (List.mem_append_right _ (va hb e)))).1,λb hb=>?_,w8⟩;obtain⟨o,e,d⟩:=T.obj _ _ st5 b hb;exact(I8.pin (b,o) (List.mem_append_right _ (List.mem_append_right _ (va hb e)))).2.1
   cases ok with
   |false=>
    rw[if_neg Bool.false_ne_true]at q7;exact again I7 q7
   |true=>
    rw[if_pos rfl]at q7;refine thn (he C fp s2 H2 _ s7 σ6 H7 _ I7 q7) λy s8 zr19=>?_;obtain⟨v8,H8,I8,r8,q8⟩:=zr19;obtain⟨ys,e8,z8,w8⟩:=q8;refine thn (zcv (X:=wl X N' scope cl C fp s2 H2) _ s8 σ6 H8 (.ref D) [v8] (.ref D) [y] (λv H=>∃m',m' < n/\W (i+1) m' σ6 H) I8 rfl (.cons r8 .nil) ⟨D,ys,v8,rfl,rfl,e8,z8,w8⟩) λ_ s9 zr21=>?_;obtain⟨v9,H9,I9,_,w9⟩:=zr21;exact again I9 w9
 exact codeAny_compStart_list (loop _ rfl) (T.self _ 0 _ _ _ tn0 (loop _ rfl))
theorem ztb{elt tg iter:Expr}{ifs:List Expr}{scope:Scope}{pos:Pos}{cl:List (Str×Addr)}{N' capt:List Str}{k:Nat}{js:List Nat}{wi:TI}{g:TG}{tt:TT}{te:TE}(hc:X.calm=true)(L:zp9 X scope cl N' capt k js)
  (hi:PI X tg iter wi) (hg:∀C fp s2 H2,PG (wl X N' scope cl C fp s2 H2) tg g) (ht:∀C fp s2 H2,PTs (wl X N' scope cl C fp s2 H2) ifs tt) (he:∀C fp s2 H2,PE (wl X N' scope cl C fp s2 H2) elt te)
  (hs:∀x,foldedSetIterable iter X.env x=pure x:=by intro _;rfl):PE X (.ListComp elt [⟨tg,iter,ifs,0⟩] scope pos) (tLC k js wi g tt te):=by
 intro pins s σ H Q I h;rw[eval_ListComp];refine wpAny_comprehension_free (use:=none) rfl hs L.clos L.kind L.names (thn (hi pins s σ H _ I h) λv s1 h1=>thn h1 λitv s2 h2=>?_);obtain⟨it,fp,tn,J,H2,e,I2,T,st2,f2,q⟩:=h2;subst e;refine thn (zj2 (E:=X.xe) hc L hg ht he I2 T st2 f2 q) λacc s3 h3=>thn h3 λcenv s4 h4=>codeAny_mono h4 λr s' hr=>?_;obtain⟨f,D,H',m,rfl,rfl,J',qq,hn,b1,b2,b3,b4,b5⟩:=hr;exact⟨m,hn,λh' hsb=>⟨.ref D,H',LcEnd.let_go J' b1 b2 b3 b4 b5 hsb,rfl,qq⟩⟩
end
section
variable {X:Cx}{pins:List (Addr×Obj)}{σ:St}{H:Hp}{s:Shared}
theorem Inv.turnedNew{ch:List Addr}{p:Addr}{o:HO}{h':Heap}{t':Nat}(I:Inv X pins σ H s)(hch:∀b∈ch,FpOk X pins H b)(hp:s.heap.objs.size<=p)
  (k:∀b u,b∉ch->s.heap.get? b=some u->h'.get? b=some u) (new:ObjOk X.prog X.w (upd H p o) h' p o):Inv X pins σ (upd H p o) { s with heap:=h',toks:=t' }:=by
 have hn:=I.hok.fresh hp;have nch:∀b u,H b=some u->b∉ch:=λb u e z=>by rw[(hch b z).1]at e;cases e
 refine I.step (g':=s.gens) (d':=s.drawn) (ch:=ch) (λb hb=>?_) (λb u _ _ hc e _=>k b u hc e) (λb u _ _ hc e _=>⟨u.slots,k b u hc e⟩) (λb u hc e n=>?_) (λb u hc e=>⟨u,k b u hc e⟩)
  (λb xs e=>by rw[zj (z0 e hn)];exact e) (λb u xs e=>by rw[zj (z0 e hn)];exact e) (λb ps e=>⟨#[],by rw[zj (z0 e hn),e];simp⟩) (λm hm=>?_) (λb u e=>?_) I.bare
 ·obtain⟨f0,f1,f2,f3,f4,f5⟩:=hch b hb;exact⟨f3,f1,f4,f5⟩
 ·rw[zj (Nat.ne_of_lt (Nat.lt_of_lt_of_le (Heap.lt_size e) hp))];exact n
 ·obtain⟨o',es,ep,ho,r⟩:=hm;exact⟨o',es,ep,k _ o' (λz=>(hch _ z).2.1 rfl) ho,r⟩
 ·by_cases hb:b=p
  ·subst hb;rw[zl]at e
   cases e;exact new
  ·rw[zj hb]at e;refine(I.hok b u e).stay (λc v hc q=>k c v ?_ q) (λc q=>by rw[zj (z0 q hn)];exact q) (λc xs q=>by rw[zj (z0 q hn)];exact q) (λc _ _ q=>by rw[zj (z0 q hn)];exact q);rcases hc with z|z
   ·rw[z];exact nch b u e
   ·exact nch c _ z
theorem Inv.turnedL{ch:List Addr}{h':Heap}{t':Nat}(I:Inv X pins σ H s)(hch:∀b∈ch,FpOk X pins H b)
  (k:∀b u,b∉ch->s.heap.get? b=some u->h'.get? b=some u):Inv X pins σ H { s with heap:=h',toks:=t' }:=by
 have nch:∀b u,H b=some u->b∉ch:=λb u e z=>by rw[(hch b z).1]at e;cases e
 refine I.step (g':=s.gens) (d':=s.drawn) (ch:=ch) (λb hb=>?_) (λb u _ _ hc e _=>k b u hc e) (λb u _ _ hc e _=>⟨u.slots,k b u hc e⟩) (λb u hc e n=>n) (λb u hc e=>⟨u,k b u hc e⟩)
  (λb xs e=>e) (λb u xs e=>e) (λb ps e=>⟨#[],by rw[e];simp⟩) (λm hm=>?_) (λb u e=>?_) I.bare
 ·obtain⟨f0,f1,f2,f3,f4,f5⟩:=hch b hb;exact⟨f3,f1,f4,f5⟩
 ·obtain⟨o',es,ep,ho,r⟩:=hm;exact⟨o',es,ep,k _ o' (λz=>(hch _ z).2.1 rfl) ho,r⟩
 ·refine(I.hok b u e).stay (λc v hc q=>k c v ?_ q) (λc q=>q) λc xs q=>q;rcases hc with z|z
  ·rw[z];exact nch b u e
  ·exact nch c _ z
end
section
variable {X:Cx}
theorem zin{bs:List Bool}{its:List Value}(r:Vals (bs.map V.bl) its):(List.range its.toArray.size).all (λi=>bs.getD i true)=bs.all id:=by
 have hl:its.toArray.size=bs.length:=by have:=r.length;simp at this ⊢;omega
 rw[hl];clear hl r;apply Bool.eq_iff_iff.mpr;simp only[List.all_eq_true,List.mem_range,id];constructor
 ·intro h b hb;obtain⟨i,hi,e⟩:=List.getElem_of_mem hb;have:=h i hi;simp[List.getD,hi,e]at this;exact this
 ·intro h i hi;simp only[List.getD,List.getElem?_eq_getElem hi,Option.getD_some];exact h _ (List.getElem_mem hi)
theorem zj3{bs:List Bool}{its:List Value}(r:Vals (bs.map V.bl) its)(i:Nat)(v:Value)(h:its.toArray[i]?=some v):v=.bool (bs.getD i true):=by
 have h':its[i]?=some v:=by simpa using h
 have hi:i<its.length:=(List.getElem?_eq_some_iff.mp h').1;have hb:i<bs.length:=by have:=r.length;simp at this;omega
 obtain⟨u,hu,ru⟩:=r.get (i:=i) (x:=.bl bs[i]) (by simp[hb]);rw[h']at hu
 cases hu;have ru:v=.bool bs[i]:=ru;rw[ru];simp[List.getD,hb]
theorem zio{A:Around}{E:Value->Shared->Prop}{s:Shared}{l:Addr}{its:Array Value}{Q:Value->Shared->Prop}{prog:Program}{w:World}(hl:s.heap.IsList l its)
  (h:∀s2:Shared,s2 = { s with heap:=s.heap.push { cls:=.type "list_iterator",data:=.fields #[.ref l,.int 0 0] } } ->
   (s2.heap.IsListIter s.heap.objs.size l 0/\s2.heap.IsList l its)->l≠s.heap.objs.size->Q (.ref s.heap.objs.size) s2) :
  wpAny (model prog w) A (pyIter (.ref l)) Q E s:=by
 have hlt:l<s.heap.objs.size:=by obtain⟨_,e,_⟩:=hl;exact Heap.lt_size e
 exact wpAny_pyIter_list hl (h _ rfl ⟨⟨_,Heap.get?_push_size _ rfl,rfl,rfl⟩,hl.push _⟩ (Nat.ne_of_lt hlt))
theorem zj4(hc:X.calm=true):wd X (.builtin "all") (λxs H Q=>∃(p:Addr) (bs:List Bool),xs = [.ref p]/\SqL X.K H p (bs.map V.bl)/\Q (.bl (bs.all id)) H):=by
 intro pins s σ H xs us Q I rv h;obtain⟨p,bs,rfl,hq,q⟩:=h;obtain⟨u,rfl,r1⟩:=rv.one
 cases r1;obtain⟨its,rvs,pl,hz⟩:=I.list hq;refine call_all_walk (zio pl.isList λs2 e st hne=>?_);subst e;refine⟨_,_,_,_,_,_,λi=>bs.getD i true,rfl,Walks.list (A:=X.A.in1) (I.ok.hd hc) _ p hne its.toArray,st,λi v s Q E hP hQ=>?_,λh' tk hk=>?_⟩
 ·rw[zj3 rvs i v hP];exact wpAny_truthy_bool hQ
 ·rw[zin rvs];refine⟨.bl (bs.all id),H,I.kept (λb o e=>hk b o (λz=>?_) (Heap.get?_push_of_some _ e)),rfl,q⟩;rw[List.mem_singleton.mp z]at e;exact Nat.lt_irrefl _ (Heap.lt_size e)
def zj5(i j:Int):Prop:=0<j/\j<10000000000000000000000000000000000000000000000000000000000000
theorem zbe:OpR X (binaryOp .FloorDiv) (rI zj5 λi j=>.int (i / j)):=opI λi j _ _ _ _ _ hc q=>by
 have h0:j≠0:=by have:=hc.1;omega
 have e:i.fdiv j=i / j:=Int.fdiv_eq_ediv_of_nonneg i (by have:=hc.1;omega);refine floordiv_int h0 (by rw[e];exact q) (.inl (PyProof.noPylong_of_log2 ?_));have h1:j.natAbs<2 ^ 400:=Nat.lt_of_lt_of_le (show j.natAbs<10000000000000000000000000000000000000000000000000000000000000 by have h1:=hc.1;have h2:=hc.2;omega) (by decide +kernel);have h2:j.natAbs≠0:=by omega
 exact Nat.lt_of_lt_of_le ((Nat.log2_lt h2).mpr h1) (by decide)
end
def j3(P:Program)(w:World)(K:PySem.W.Frag)(mg:Str->Option Value)(base:Heap)(k:Nat)(x:Str)(ps:List Str)(sp:Sp):Prop :=
 ∃f fd,FnOk P w K mg base CX0 k f fd ps sp/\Binds K fd ps []/\PySem.W.keepIn K (.ref f)=true/\mg x=some (.ref f)
theorem zbf{X:Cx}{k k':Nat}{x:Str}{ps:List Str}{sp:Sp}{e:Expr}{es:List Expr}{t:TA}{p pos:Pos}(C:j3 X.prog X.w X.K X.mg X.base k x ps sp)(hr:Room k' X.A)(hg:Gl X x)(ha:PA X (e::es) t)(hk:k<=k':=by decide)
  (hdb:(x ==("__debug__" : Str))=false:=by decide) (he:starEach (e::es) X.env=(false,eval e X.env)::starEach es X.env:=by rfl) (hpl:(backTo pos (starEach es X.env)).any (·.1)=false:=by rfl) :
  PE X (.Call (.Name x p) (e::es) [] pos) (zow sp [] E0 t):=by
 intro pins s σ H Q I h;obtain⟨f,fd,F,b,kp,m⟩:=C;exact zmu F (hr.mono hk) hg m kp b .nil zj0 ha hdb he hpl pins s σ H Q I h
def But(p:Addr)(H H':Hp):Prop:=∀b o,b≠p->H b=some o->H' b=some o
theorem But.refl(p:Addr)(H:Hp):But p H H:=λ_ _ _ h=>h
theorem But.trans{p:Addr}{H H1 H2:Hp}(a:But p H H1)(b:But p H1 H2):But p H H2:=λc o n h=>b c o n (a c o n h)
theorem But.of_same{p:Addr}{H H':Hp}(h:Same H H'):But p H H':=λb o _ q=>h b o q
theorem But.write{p:Addr}{H:Hp}{o:HO}:But p H (upd H p o):=λb u n q=>by rw[zj n];exact q
theorem Same.but{p:Addr}{H H1 H2:Hp}(a:Same H H1)(hp:H p=none)(b:But p H1 H2):Same H H2:=λc o h=>b c o (z0 h hp) (a c o h)
theorem zw{H:Hp}{p:Addr}(h:H p=none)(o:HO):Same H (upd H p o):=λb u q=>by rw[zj (z0 q h)];exact q
def Pen(H:Hp)(p:Addr):Prop:=∃a b c:Int,H p=some (.lst [.int a,.int b,.int c])
theorem zox{n:Nat}(h:n<=10000):n<sizeLine:=Nat.lt_of_le_of_lt h (by decide)
theorem zqa{n:Nat}(h:n<=10000):n<=sizeLine:=Nat.le_of_lt (zox h)
theorem zqb{α:Type}{xs:List α}{k:Int}(h0:0<=k)(h1:k<xs.length):∃v,atI xs k=some v/\xs[k.toNat]?=some v:=by
 have hk:k.toNat<xs.length:=by omega
 have ek:k=((k.toNat:Nat):Int):=by omega
 have q:atI xs ((k.toNat:Nat):Int)=some xs[k.toNat]:=qv (List.getElem?_eq_getElem hk);rw[<-ek]at q;exact⟨_,q,List.getElem?_eq_getElem hk⟩
theorem Pen.ne{H:Hp}{p l:Addr}(h:Pen H p)(hl:H l=none):l≠p:=λe=>by
 obtain⟨a,b,c,q⟩:=h;rw[e]at hl;rw[hl]at q
 cases q
def NextLC(n i:Nat)(D:Addr)(Wv:Nat->St->Hp->Prop)(σ2:St)(y:V)(H4:Hp):Prop :=
 ∃ys,H4 D=some (.lst ys)/\ys.length<sizeLine/\∃m',m' < n-i/\(m'=n-(i+1)/\i+1<=n/\Wv (i+1) σ2 (upd H4 D (.lst (ys ++ [y]))))
def SkipLC(n i:Nat)(Wv:Nat->St->Hp->Prop)(σ2:St)(H3:Hp):Prop:=∃m',m' < n-i/\(m'=n-(i+1)/\i+1<=n/\Wv (i+1) σ2 H3)
theorem NextLC.mk{n i:Nat}{D:Addr}{Wv:Nat->St->Hp->Prop}{σ2:St}{y:V}{H4:Hp}(hi:i<n){ys:List V}(e:H4 D=some (.lst ys))(z:ys.length<=10000)(w:Wv (i+1) σ2 (upd H4 D (.lst (ys ++ [y])))):NextLC n i D Wv σ2 y H4 :=
 ⟨ys,e,zox z,n-(i+1),by omega,rfl,hi,w⟩
theorem SkipLC.mk{n i:Nat}{Wv:Nat->St->Hp->Prop}{σ2:St}{H3:Hp}(hi:i<n)(w:Wv (i+1) σ2 H3):SkipLC n i Wv σ2 H3:=⟨n-(i+1),by omega,rfl,hi,w⟩
section
variable {prog:Program}{w:World}{A:Around}{E:Value->Shared->Prop}{s:Shared}
theorem zf9{it t:Addr}{i:Nat}{xs:Array Value}{x:Value}{Q:Value->Shared->Prop}(hi:s.heap.IsTupleIter it t i)(ht:s.heap.IsTuple t xs)(hx:xs[i]?=some x)
  (q:∀h',h'.IsTupleIter it t (i+1)->Heap.SameBut it s.heap h'->Q x { s with heap:=h' }):wpAny (model prog w) A (Builtin.SmallTypes.nextOf (.ref it)) Q E s:=by
 obtain⟨oi,e1,c1,d1⟩:=id hi;obtain⟨ot,e2,c2,n2,d2⟩:=id ht;unfold Builtin.SmallTypes.nextOf;refine wpAny_bind (wpAny_callSpecial?_slot (name:=Str.ofString "__next__") hi.typeIs F.slot_tuple_iterator_next (wpAny_call_entry F.slot_tuple_iterator_next hi.typeIs F.entry_tuple_iterator_next (show wpAny _ _ (field (.ref it) 0 >>= _) _ _ s from wpAny_bind (wpAny_field e1 d1 (x:=.ref t) rfl ?_)) (F.args_tuple_iterator_next_1 _)));show wpAny _ _ (if (Value.ref t == Value.none)=true then _ else _) _ _ s;rw[if_neg (λz:(Value.ref t == Value.none)=true=>Bool.false_ne_true z)];refine(show wpAny _ _ (field (.ref it) 1 >>= _) _ _ s from wpAny_bind (wpAny_field e1 d1 (x:=.int i 0) rfl (show wpAny _ _ (seqItems? (.ref t) >>= _) _ _ s from wpAny_bind (wpAny_seqItems e2 d2 ?_))));simp only[hx,Int.toNat_natCast];refine wpAny_bind (wpAny_setField e1 d1 (by simp) (wpAny_pure ⟨x,rfl,wpAny_pure (q _ ⟨_,Heap.get?_update_self _ e1 (Obj.isFreed_of_fields (Obj.data_mapFields d1 _)),(Obj.cls_mapFields ..).trans c1,?_⟩ (Heap.SameBut.update ..))⟩));rw[Obj.data_mapFields d1];simp[rawInt]
theorem ziq{it t:Addr}{i:Nat}{xs:Array Value}{Q:Value->Shared->Prop}(hh:A.handled=none)(hi:s.heap.IsTupleIter it t i)(ht:s.heap.IsTuple t xs)(hx:xs[i]?=none)
  (q:∀h' e,Heap.ExtBut it s.heap h'->(∃o,h'.get? e=some o/\o.cls=.type "StopIteration")->E (.ref e) { s with heap:=h' }):wpAny (model prog w) A (Builtin.SmallTypes.nextOf (.ref it)) Q E s:=by
 obtain⟨oi,e1,c1,d1⟩:=id hi;obtain⟨ot,e2,c2,n2,d2⟩:=id ht;unfold Builtin.SmallTypes.nextOf;refine wpAny_bind (wpAny_callSpecial?_slot (name:=Str.ofString "__next__") hi.typeIs F.slot_tuple_iterator_next (wpAny_call_entry F.slot_tuple_iterator_next hi.typeIs F.entry_tuple_iterator_next (show wpAny _ _ (field (.ref it) 0 >>= _) _ _ s from wpAny_bind (wpAny_field e1 d1 (x:=.ref t) rfl ?_)) (F.args_tuple_iterator_next_1 _)));show wpAny _ _ (if (Value.ref t == Value.none)=true then _ else _) _ _ s;rw[if_neg (λz:(Value.ref t == Value.none)=true=>Bool.false_ne_true z)];refine(show wpAny _ _ (field (.ref it) 1 >>= _) _ _ s from wpAny_bind (wpAny_field e1 d1 (x:=.int i 0) rfl (show wpAny _ _ (seqItems? (.ref t) >>= _) _ _ s from wpAny_bind (wpAny_seqItems e2 d2 ?_))));simp only[hx,Int.toNat_natCast];refine wpAny_bind (wpAny_rule (wpAny_bind (wpAny_setField e1 d1 (by simp) (show wpAny _ _ (newExc (.type "StopIteration") [] >>= _) _ _ _ from wpAny_bind ?_))));simp only[newTuple,newExc];refine wpAny_bind (wpAny_newObj_type (wpAny_bind (m:=firstArgMember _ _) (wpAny_of_eq (a:=Value.none) (by first|rfl |(simp only[firstArgMember];rfl)) (wpAny_newObj_type ?_ (by size_fits)))) (by size_fits));simp only[raiseNew];refine wpAny_bind (wpAny_handled ?_)
 first |(rw[hh]) |(rw[show A.in1.handled=none from hh])
 exact wpAny_bind (wpAny_pure (wpAny_throw (q _ _ (((Heap.SameBut.update ..).extBut.push _).push _) ⟨_,Heap.get?_push_size _ rfl,rfl⟩)))
end
def zIt(b:Bool)(h:Heap)(it l:Addr)(i:Nat):Prop:=if b=true then h.IsTupleIter it l i else h.IsListIter it l i
def zSq(b:Bool)(h:Heap)(l:Addr)(xs:Array Value):Prop:=if b=true then h.IsTuple l xs else h.IsList l xs
def zOb(b:Bool)(l:Addr):Obj:={ cls:=.type (if b=true then "tuple_iterator" else "list_iterator"),data:=.fields #[.ref l,.int 0 0] }
theorem zIt.at{b:Bool}{h h':Heap}{it l:Addr}{i:Nat}(x:zIt b h it l i)(e:∀o,h.get? it=some o->h'.get? it=some o):zIt b h' it l i:=by
 cases b
 ·exact Heap.IsListIter.at (show h.IsListIter it l i from x) e
 ·exact Heap.IsTupleIter.at (show h.IsTupleIter it l i from x) e
theorem zIt.but{b:Bool}{h h':Heap}{it l c:Addr}{i:Nat}(x:zIt b h it l i)(e:Heap.ExtBut c h h')(n:it≠c):zIt b h' it l i:=x.at λo q=>e it o n q
theorem zSq.but{b:Bool}{h h':Heap}{l c:Addr}{xs:Array Value}(x:zSq b h l xs)(e:Heap.ExtBut c h h')(n:l≠c):zSq b h' l xs:=by
 cases b
 ·exact Heap.IsList.extBut (show h.IsList l xs from x) e n
 ·exact Heap.IsTuple.extBut (show h.IsTuple l xs from x) e n
theorem zSq.push{b:Bool}{h:Heap}{l:Addr}{xs:Array Value}(x:zSq b h l xs)(o:Obj):zSq b (h.push o) l xs:=by
 cases b
 ·exact Heap.IsList.push (show h.IsList l xs from x) o
 ·exact Heap.IsTuple.push (show h.IsTuple l xs from x) o
theorem zSq.lt{b:Bool}{h:Heap}{l:Addr}{xs:Array Value}(x:zSq b h l xs):l<h.objs.size:=by
 cases b
 ·obtain⟨o,e,_⟩:=(show h.IsList l xs from x)
  exact Heap.lt_size e
 ·obtain⟨o,e,_⟩:=(show h.IsTuple l xs from x)
  exact Heap.lt_size e
theorem zIt.own{b:Bool}{h:Heap}{it l:Addr}{i:Nat}(x:zIt b h it l i):∃o,h.get? it=some o/\∀v,o.data ≠ .cell v:=by
 cases b
 ·obtain⟨o,e,c,d⟩:=(show h.IsListIter it l i from x)
  exact⟨o,e,λv q=>by rw[d]at q;cases q⟩
 ·obtain⟨o,e,c,d⟩:=(show h.IsTupleIter it l i from x)
  exact⟨o,e,λv q=>by rw[d]at q;cases q⟩
section
variable {prog:Program}{w:World}{A:Around}{E:Value->Shared->Prop}{s:Shared}
theorem km{b:Bool}{it l:Addr}{i:Nat}{xs:Array Value}{x:Value}{Q:Value->Shared->Prop}(hi:zIt b s.heap it l i)(hl:zSq b s.heap l xs)(hx:xs[i]?=some x)
  (q:∀h',zIt b h' it l (i+1)->Heap.SameBut it s.heap h'->Q x { s with heap:=h' }):wpAny (model prog w) A (Builtin.SmallTypes.nextOf (.ref it)) Q E s:=by
 cases b
 ·exact wpAny_nextOf_list_item hi hl hx q
 ·exact zf9 hi hl hx q
theorem zcx{b:Bool}{it l:Addr}{i:Nat}{xs:Array Value}{Q:Value->Shared->Prop}(hh:A.handled=none)(hi:zIt b s.heap it l i)(hl:zSq b s.heap l xs)(hx:xs[i]?=none)
  (q:∀h' e,Heap.ExtBut it s.heap h'->(∃o,h'.get? e=some o/\o.cls=.type "StopIteration")->E (.ref e) { s with heap:=h' }):wpAny (model prog w) A (Builtin.SmallTypes.nextOf (.ref it)) Q E s:=by
 cases b
 ·exact wpAny_nextOf_list_end hh hi hl hx q
 ·exact ziq hh hi hl hx q
theorem zoy{b:Bool}{l:Addr}{xs:Array Value}(hl:zSq b s.heap l xs){Q:Value->Shared->Prop}(q:Q (.ref s.heap.objs.size) { s with heap:=s.heap.push (zOb b l) }):wpAny (model prog w) A (pyIter (.ref l)) Q E s:=by
 cases b
 ·exact wpAny_pyIter_list hl q
 ·exact wpAny_pyIter_tuple hl q
theorem zir{b1 b2:Bool}{z TI TO i1 i2 l1 l2:Addr}{k1 k2:Nat}{xs ys:Array Value}{x y a b:Value}{Q:Value->Shared->Prop}(D:ZipApart z TI TO i1 i2 l1 l2)(hz:IsZip s.heap z TI TO .none)(hI:IsPair s.heap TI (.ref i1) (.ref i2))(hO:IsPair s.heap TO a b)
  (h1:zIt b1 s.heap i1 l1 k1) (h2:zIt b2 s.heap i2 l2 k2) (q1:zSq b1 s.heap l1 xs) (q2:zSq b2 s.heap l2 ys) (hx:xs[k1]?=some x) (hy:ys[k2]?=some y)
  (q:∀h',IsZip h' z TI TO (rawInt s.heap.objs.size)->IsPair h' TO x y->zIt b1 h' i1 l1 (k1+1)->zIt b2 h' i2 l2 (k2+1)->IsPair h' s.heap.objs.size x y->h'.objs.size=s.heap.objs.size+1 ->
   (∀c o,c≠z->c≠TO->c≠i1->c≠i2->s.heap.get? c=some o->h'.get? c=some o)->Q (.ref s.heap.objs.size) { s with heap:=h' }) :
  wpAny (model prog w) A (Builtin.«zip.__next__» ⟨[.ref z],[]⟩) (λfin s'=>∃v,fin=.done (.ret v)/\Q v s') E s:=by
 refine(show wpAny _ _ (field (.ref z) 2 >>= _) _ _ _ from wpAny_bind (wpAny_field hz rfl (x:=.bool false) rfl (show wpAny _ _ (field (.ref z) 3 >>= _) _ _ _ from wpAny_bind (wpAny_field hz rfl (x:=.ref TI) rfl (wpAny_bind (wpAny_seqItems hI rfl (show wpAny _ _ (Builtin.SmallTypes.ownedTupleIsFree (.ref z) >>= _) _ _ _ from wpAny_bind ?_)))))));unfold Builtin.SmallTypes.ownedTupleIsFree;refine wpAny_bind (wpAny_field hz rfl (x:=.none) rfl (wpAny_pure ?_));simp only[if_true];refine wpAny_bind (wpAny_rule (wpAny_bind (wpAny_field hz rfl (x:=.ref TO) rfl (wpAny_bind (wpAny_setField_rec hz (by simp) λg1 z1 s1=>wpAny_bind ?_)))))
 replace z1:IsZip g1 z TI TO .ellipsis:=z1
 simp only[List.zipIdx_nil,List.zipIdx_cons,List.forIn_nil,List.forIn_cons];refine wpAny_bind (wpAny_bind (wpAny_onRaise (show wpAny _ _ (Builtin.SmallTypes.nextOf (.ref i1) >>= _) _ _ _ from wpAny_bind (km (h1.but s1.extBut D.i1z) (q1.but s1.extBut D.l1z) hx λg2 t2 s2=>wpAny_pure ?_))));have O2:IsPair g2 TO a b:=s2.extBut _ _ D.TOi1 (s1.extBut _ _ D.TOz hO);refine wpAny_bind (wpAny_seqItems O2 rfl (wpAny_bind (wpAny_updateSeq_pair O2 λg3 O3 s3=>wpAny_bind (wpAny_letGo (wpAny_pure ?_)))))
 replace O3:IsPair g3 TO x b:=O3
 refine wpAny_bind (wpAny_bind (wpAny_onRaise (show wpAny _ _ (Builtin.SmallTypes.nextOf (.ref i2) >>= _) _ _ _ from wpAny_bind (km (((h2.but s1.extBut D.i2z).but s2.extBut D.i12.symm).but s3.extBut D.TOi2.symm) (((q2.but s1.extBut D.l2z).but s2.extBut D.l2i1).but s3.extBut D.l2TO) hy λg4 t4 s4=>wpAny_pure ?_))));have O4:IsPair g4 TO x b:=s4.extBut _ _ D.TOi2 O3;refine wpAny_bind (wpAny_seqItems O4 rfl (wpAny_bind (wpAny_updateSeq_pair O4 λg5 O5 s5=>wpAny_bind (wpAny_letGo (wpAny_pure (wpAny_pure ?_))))))
 replace O5:IsPair g5 TO x y:=O5
 refine wpAny_bind (wpAny_seqItems O5 rfl (wpAny_bind (wpAny_newTuple ?_)));have sz:g5.objs.size=s.heap.objs.size:=by rw[s5.1,s4.1,s3.1,s2.1,s1.1]
 have z5:IsZip g5 z TI TO .ellipsis:=s5.extBut _ _ D.TOz.symm (s4.extBut _ _ D.i2z.symm (s3.extBut _ _ D.TOz.symm (s2.extBut _ _ D.i1z.symm z1)));have k5:∀c o,c≠z->c≠TO->c≠i1->c≠i2->s.heap.get? c=some o->g5.get? c=some o:=λc o n1 n2 n3 n4 e=>s5.extBut _ _ n2 (s4.extBut _ _ n4 (s3.extBut _ _ n2 (s2.extBut _ _ n3 (s1.extBut _ _ n1 e))));have t5:zIt b1 g5 i1 l1 (k1+1):=((t2.but s3.extBut D.TOi1.symm).but s4.extBut D.i12).but s5.extBut D.TOi1.symm;have u5:zIt b2 g5 i2 l2 (k2+1):=t4.but s5.extBut D.TOi2.symm;have lz:z<g5.objs.size:=Heap.lt_size z5;refine(show wpAny _ _ (Builtin.SmallTypes.ownedTupleHandOut (.ref z) (.ref g5.objs.size) >>= _) _ _ _ from wpAny_bind ?_);unfold Builtin.SmallTypes.ownedTupleHandOut;have z6:IsZip (g5.push { cls:=.type "tuple",data:=.seq #[x,y] }) z TI TO .ellipsis:=Heap.get?_push_of_some _ z5;refine wpAny_bind (wpAny_setField_rec z6 (by simp) λg7 z7 s7=>?_)
 replace z7:IsZip g7 z TI TO (rawInt g5.objs.size):=z7
 refine wpAny_setField_rec z7 (by simp) λg8 z8 s8=>?_
 replace z8:IsZip g8 z TI TO (rawInt g5.objs.size):=z8
 have up:∀c o,c≠z->g5.get? c=some o->g8.get? c=some o:=λc o n e=>s8.extBut _ _ n (s7.extBut _ _ n (Heap.get?_push_of_some _ e));have p8:IsPair g8 g5.objs.size x y:=s8.extBut _ _ (Nat.ne_of_gt lz) (s7.extBut _ _ (Nat.ne_of_gt lz) (Heap.get?_push_size _ rfl));have n8:g8.objs.size=g5.objs.size+1:=by rw[s8.1,s7.1,Heap.size_push]
 rw[sz]at z8 p8 n8;refine wpAny_pure ⟨_,rfl,(show Q (.ref g5.objs.size) _ from ?_)⟩;rw[sz];exact q g8 z8 (up _ _ D.TOz O5) (t5.at λo e=>up _ o D.i1z e) (u5.at λo e=>up _ o D.i2z e) p8 n8 λc o n1 n2 n3 n4 e=>up c o n1 (k5 c o n1 n2 n3 n4 e)
theorem zj6{b1 b2:Bool}{z TI TO i1 i2 l1 l2:Addr}{k1 k2:Nat}{xs ys:Array Value}{a b:Value}{Q:Fin->Shared->Prop}(hh:A.handled=none)(D:ZipApart z TI TO i1 i2 l1 l2)(hz:IsZip s.heap z TI TO .none)(hI:IsPair s.heap TI (.ref i1) (.ref i2))(hO:IsPair s.heap TO a b)
  (h1:zIt b1 s.heap i1 l1 k1) (h2:zIt b2 s.heap i2 l2 k2) (q1:zSq b1 s.heap l1 xs) (q2:zSq b2 s.heap l2 ys) (he:xs[k1]?=none\/ys[k2]?=none)
  (q:∀h' e,(∀c o,c≠z->c≠TO->c≠i1->c≠i2->s.heap.get? c=some o->h'.get? c=some o)->(∃o,h'.get? e=some o/\o.cls=.type "StopIteration")->E (.ref e) { s with heap:=h' }) :
  wpAny (model prog w) A (Builtin.«zip.__next__» ⟨[.ref z],[]⟩) Q E s:=by
 refine(show wpAny _ _ (field (.ref z) 2 >>= _) _ _ _ from wpAny_bind (wpAny_field hz rfl (x:=.bool false) rfl (show wpAny _ _ (field (.ref z) 3 >>= _) _ _ _ from wpAny_bind (wpAny_field hz rfl (x:=.ref TI) rfl (wpAny_bind (wpAny_seqItems hI rfl (show wpAny _ _ (Builtin.SmallTypes.ownedTupleIsFree (.ref z) >>= _) _ _ _ from wpAny_bind ?_)))))));unfold Builtin.SmallTypes.ownedTupleIsFree;refine wpAny_bind (wpAny_field hz rfl (x:=.none) rfl (wpAny_pure ?_));simp only[if_true];refine wpAny_bind (wpAny_rule (wpAny_bind (wpAny_field hz rfl (x:=.ref TO) rfl (wpAny_bind (wpAny_setField_rec hz (by simp) λg1 z1 s1=>wpAny_bind ?_)))))
 replace z1:IsZip g1 z TI TO .ellipsis:=z1
 simp only[List.zipIdx_nil,List.zipIdx_cons,List.forIn_nil,List.forIn_cons]
 cases hx:xs[k1]? with
 |none=>
  refine wpAny_bind (wpAny_bind (wpAny_onRaise (show wpAny _ _ (Builtin.SmallTypes.nextOf (.ref i1) >>= _) _ _ _ from wpAny_bind (zcx hh (h1.but s1.extBut D.i1z) (q1.but s1.extBut D.l1z) hx λg2 e s2 ⟨oe,ee,ce⟩=>?_))));have z2:IsZip g2 z TI TO .ellipsis:=s2 _ _ D.i1z.symm z1;have nez:e≠z:=λt=>by subst t;rw[z2]at ee;cases ee;simp at ce
  exact wpAny_setField_rec z2 (by simp) λg3 _ s3=>q g3 e (λc o n1 _ n3 _ t=>s3.extBut _ _ n1 (s2 _ _ n3 (s1.extBut _ _ n1 t))) ⟨oe,s3.extBut _ _ nez ee,ce⟩
 |some x=>
  have hy:ys[k2]?=none:=he.resolve_left (by rw[hx];exact λt=>nomatch t);refine wpAny_bind (wpAny_bind (wpAny_onRaise (show wpAny _ _ (Builtin.SmallTypes.nextOf (.ref i1) >>= _) _ _ _ from wpAny_bind (km (h1.but s1.extBut D.i1z) (q1.but s1.extBut D.l1z) hx λg2 t2 s2=>wpAny_pure ?_))));have O2:IsPair g2 TO a b:=s2.extBut _ _ D.TOi1 (s1.extBut _ _ D.TOz hO);refine wpAny_bind (wpAny_seqItems O2 rfl (wpAny_bind (wpAny_updateSeq_pair O2 λg3 O3 s3=>wpAny_bind (wpAny_letGo (wpAny_pure ?_)))));refine wpAny_bind (wpAny_bind (wpAny_onRaise (show wpAny _ _ (Builtin.SmallTypes.nextOf (.ref i2) >>= _) _ _ _ from wpAny_bind (zcx hh (((h2.but s1.extBut D.i2z).but s2.extBut D.i12.symm).but s3.extBut D.TOi2.symm) (((q2.but s1.extBut D.l2z).but s2.extBut D.l2i1).but s3.extBut D.l2TO) hy λg4 e s4 ⟨oe,ee,ce⟩=>?_))));have z4:IsZip g4 z TI TO .ellipsis:=s4 _ _ D.i2z.symm (s3.extBut _ _ D.TOz.symm (s2.extBut _ _ D.i1z.symm z1));have nez:e≠z:=λt=>by subst t;rw[z4]at ee;cases ee;simp at ce
  exact wpAny_setField_rec z4 (by simp) λg5 _ s5=>q g5 e (λc o n1 n2 n3 n4 t=>s5.extBut _ _ n1 (s4 _ _ n4 (s3.extBut _ _ n2 (s2.extBut _ _ n3 (s1.extBut _ _ n1 t))))) ⟨oe,s5.extBut _ _ nez ee,ce⟩
theorem zbg{b1 b2:Bool}{z TI TO i1 i2 l1 l2:Addr}{k1 k2:Nat}{xs ys:Array Value}{x y a b:Value}{Q:Option Value->Shared->Prop}(D:ZipApart z TI TO i1 i2 l1 l2)(hz:IsZip s.heap z TI TO .none)(hI:IsPair s.heap TI (.ref i1) (.ref i2))(hO:IsPair s.heap TO a b)
  (h1:zIt b1 s.heap i1 l1 k1) (h2:zIt b2 s.heap i2 l2 k2) (q1:zSq b1 s.heap l1 xs) (q2:zSq b2 s.heap l2 ys) (hx:xs[k1]?=some x) (hy:ys[k2]?=some y)
  (q:∀h',IsZip h' z TI TO (rawInt s.heap.objs.size)->IsPair h' TO x y->zIt b1 h' i1 l1 (k1+1)->zIt b2 h' i2 l2 (k2+1)->IsPair h' s.heap.objs.size x y->h'.objs.size=s.heap.objs.size+1 ->
   (∀c o,c≠z->c≠TO->c≠i1->c≠i2->s.heap.get? c=some o->h'.get? c=some o)->Q (some (.ref s.heap.objs.size)) { s with heap:=h' }):wpAny (model prog w) A (pyNext (.ref z)) Q E s:=by
 have hT:s.TypeIs (.ref z) "zip" :=⟨_,hz,rfl⟩
 unfold pyNext;exact wpAny_bind (wpAny_attempt (wpAny_callSpecial?_slot (name:=Str.ofString "__next__") hT F.slot_zip_next (wpAny_call_entry F.slot_zip_next hT F.entry_zip_next (zir D hz hI hO h1 h2 q1 q2 hx hy λh' a1 a2 a3 a4 a5 a6 a7=>wpAny_pure (q h' a1 a2 a3 a4 a5 a6 a7)) (F.args_zip_next_1 _))))
theorem zca{b1 b2:Bool}{z TI TO i1 i2 l1 l2:Addr}{k1 k2:Nat}{xs ys:Array Value}{a b:Value}{Q:Option Value->Shared->Prop}(hh:A.handled=none)(D:ZipApart z TI TO i1 i2 l1 l2)(hz:IsZip s.heap z TI TO .none)(hI:IsPair s.heap TI (.ref i1) (.ref i2))(hO:IsPair s.heap TO a b)
  (h1:zIt b1 s.heap i1 l1 k1) (h2:zIt b2 s.heap i2 l2 k2) (q1:zSq b1 s.heap l1 xs) (q2:zSq b2 s.heap l2 ys) (he:xs[k1]?=none\/ys[k2]?=none)
  (q:∀h',(∀c o,c≠z->c≠TO->c≠i1->c≠i2->s.heap.get? c=some o->h'.get? c=some o)->Q none { s with heap:=h' }):wpAny (model prog w) A (pyNext (.ref z)) Q E s:=by
 have hT:s.TypeIs (.ref z) "zip" :=⟨_,hz,rfl⟩
 unfold pyNext;exact wpAny_bind (wpAny_attempt (wpAny_callSpecial?_slot (name:=Str.ofString "__next__") hT F.slot_zip_next (wpAny_call_entry F.slot_zip_next hT F.entry_zip_next (zj6 hh D hz hI hO h1 h2 q1 q2 he λh' e k ⟨o,ho,hc⟩=>wpAny_bind (wpAny_isInstance (T := "StopIteration") (b:=true) ⟨o,ho,hc⟩ isSubtype_stop (wpAny_pure (q _ k)))) (F.args_zip_next_1 _))))
end
abbrev zG1(b1:Bool)(h:Heap)(l1:Addr):Heap:=h.push (zOb b1 l1)
abbrev zG2(b1 b2:Bool)(h:Heap)(l1 l2:Addr):Heap:=(zG1 b1 h l1).push (zOb b2 l2)
abbrev zG3(b1 b2:Bool)(h:Heap)(l1 l2:Addr):Heap:=(zG2 b1 b2 h l1 l2).push { cls:=.type "tuple",data:=.seq #[.ref h.objs.size,.ref (zG1 b1 h l1).objs.size] }
abbrev zG4(b1 b2:Bool)(h:Heap)(l1 l2:Addr):Heap:=(zG3 b1 b2 h l1 l2).push { cls:=.type "tuple",data:=.seq #[.none,.none] }
abbrev zG5(b1 b2:Bool)(h:Heap)(l1 l2:Addr):Heap:=(zG4 b1 b2 h l1 l2).push { cls:=.type "zip",data:=.fields #[.none,.bool false,.bool false,.ref (zG2 b1 b2 h l1 l2).objs.size,.ref (zG3 b1 b2 h l1 l2).objs.size] }
theorem zj7(b1 b2:Bool)(l1 l2:Addr)(xs ys:Array Value):Meets (Builtin.«zip.__new__» ⟨[.type "zip",.ref l1,.ref l2],[]⟩) (λ_ R s=>zSq b1 s.heap l1 xs/\zSq b2 s.heap l2 ys/\R (.ok (.ret (.ref (zG4 b1 b2 s.heap l1 l2).objs.size))) { s with heap:=zG5 b1 b2 s.heap l1 l2 }) :=
 .of_wp λprog w A R s h=>by
  obtain⟨hp,g,d,tk,os⟩:=s;obtain⟨q1,q2,h⟩:=h;have hsub:=sub_zip;have L1:zSq b1 (Shared.heap ⟨hp,g,d,tk,os⟩) l1 xs:=q1;have L2:zSq b2 (Shared.heap ⟨hp.push (zOb b1 l1),g,d,tk,os⟩) l2 ys:=q2.push _
  wp_walk using zoy L1,zoy L2
  exact⟨_,rfl,h⟩
theorem zis{prog:Program}{w:World}{A:Around}{E:Value->Shared->Prop}{s:Shared}{b1 b2:Bool}{l1 l2:Addr}{xs ys:Array Value}{Q:Value->Shared->Prop}(q1:zSq b1 s.heap l1 xs)(q2:zSq b2 s.heap l2 ys)
  (h:∀h',IsZip h' (s.heap.objs.size+4) (s.heap.objs.size+2) (s.heap.objs.size+3) .none->IsPair h' (s.heap.objs.size+2) (.ref s.heap.objs.size) (.ref (s.heap.objs.size+1))->IsPair h' (s.heap.objs.size+3) .none .none ->
   zIt b1 h' s.heap.objs.size l1 0->zIt b2 h' (s.heap.objs.size+1) l2 0->(∀c o,s.heap.get? c=some o->h'.get? c=some o)->Q (.ref (s.heap.objs.size+4)) { s with heap:=h' }) :
  wpAny (model prog w) A (call (.type "zip") [.ref l1,.ref l2]) Q E s:=by
 refine callType_new F.called_zip (by decide) (F.typeCall_zip_2 _ _) (F.newCall_zip_2 _ _) (λobj=>F.args_object_init_3 obj _ _) F.entry_zip_new (zj7 b1 b2 l1 l2 xs ys) ⟨q1,q2,?_⟩;have z1:(zG1 b1 s.heap l1).objs.size=s.heap.objs.size+1:=Heap.size_push ..;have z2:(zG2 b1 b2 s.heap l1 l2).objs.size=s.heap.objs.size+2:=by rw[Heap.size_push,z1]
 have z3:(zG3 b1 b2 s.heap l1 l2).objs.size=s.heap.objs.size+3:=by rw[Heap.size_push,z2]
 have z4:(zG4 b1 b2 s.heap l1 l2).objs.size=s.heap.objs.size+4:=by rw[Heap.size_push,z3]
 have g5:(zG5 b1 b2 s.heap l1 l2).get? (zG4 b1 b2 s.heap l1 l2).objs.size=some _:=Heap.get?_push_size _ rfl;have g4:(zG5 b1 b2 s.heap l1 l2).get? (zG3 b1 b2 s.heap l1 l2).objs.size=some _:=Heap.get?_push_of_some _ (Heap.get?_push_size _ rfl);have g3:(zG5 b1 b2 s.heap l1 l2).get? (zG2 b1 b2 s.heap l1 l2).objs.size=some _:=Heap.get?_push_of_some _ (Heap.get?_push_of_some _ (Heap.get?_push_size _ rfl));have g2:(zG5 b1 b2 s.heap l1 l2).get? (zG1 b1 s.heap l1).objs.size=some (zOb b2 l2):=Heap.get?_push_of_some _ (Heap.get?_push_of_some _ (Heap.get?_push_of_some _ (Heap.get?_push_size _ rfl)));have g1:(zG5 b1 b2 s.heap l1 l2).get? s.heap.objs.size=some (zOb b1 l1):=Heap.get?_push_of_some _ (Heap.get?_push_of_some _ (Heap.get?_push_of_some _ (Heap.get?_push_of_some _ (Heap.get?_push_size _ rfl))));show _/\_;rw[z2,z3,z4]at g5;rw[z1,z2]at g3;rw[z3]at g4;rw[z1]at g2;rw[z4];have i1:zIt b1 (zG5 b1 b2 s.heap l1 l2) s.heap.objs.size l1 0:=by
  cases b1
  ·exact⟨_,g1,rfl,rfl⟩
  ·exact⟨_,g1,rfl,rfl⟩
 have i2:zIt b2 (zG5 b1 b2 s.heap l1 l2) (s.heap.objs.size+1) l2 0:=by
  cases b2
  ·exact⟨_,g2,rfl,rfl⟩
  ·exact⟨_,g2,rfl,rfl⟩
 exact⟨⟨_,g5,rfl⟩,h _ g5 g3 g4 i1 i2 λc o x=>Heap.get?_push_of_some _ (Heap.get?_push_of_some _ (Heap.get?_push_of_some _ (Heap.get?_push_of_some _ (Heap.get?_push_of_some _ x))))⟩
def SqG(b:Bool)(K:PySem.W.Frag)(H:Hp)(a:Addr)(xs:List V):Prop:=if b=true then SqT K H a xs else SqL K H a xs
theorem Inv.sqG{X:Cx}{pins:List (Addr×Obj)}{σ:St}{H:Hp}{s:Shared}{b:Bool}{a:Addr}{xs:List V}(I:Inv X pins σ H s)(h:SqG b X.K H a xs):∃its:List Value,Vals xs its/\zSq b s.heap a its.toArray/\xs.length<=sizeLine:=by
 cases b
 ·obtain⟨its,r,p,z⟩:=I.list (show SqL X.K H a xs from h);exact⟨its,r,p.isList,z⟩
 ·obtain⟨its,r,p,z⟩:=I.tuple (show SqT X.K H a xs from h);exact⟨its,r,p,z⟩
theorem Inv.sqG_inj{X:Cx}{pins:List (Addr×Obj)}{σ:St}{H:Hp}{s:Shared}{b:Bool}{a:Addr}{xs ys:List V}(I:Inv X pins σ H s)(h:SqG b X.K H a xs)(h':SqG b X.K H a ys):xs=ys:=by
 cases b
 ·exact I.list_inj (show SqL X.K H a xs from h) h'
 ·exact I.tuple_inj (show SqT X.K H a xs from h) h'
def Izg(b1 b2:Bool)(K:PySem.W.Frag)(a b:Addr):It :=
 ⟨λi H=>∃xs ys x y,SqG b1 K H a xs/\SqG b2 K H b ys/\xs[i]?=some x/\ys[i]?=some y,λi H v H'=>∃p x y,H p=none/\v=.ref p/\H'=upd H p (.tup [x,y])/\(∀xs,SqG b1 K H a xs->xs[i]?=some x)/\∀ys,SqG b2 K H b ys->ys[i]?=some y,λi H=>∃xs ys,SqG b1 K H a xs/\SqG b2 K H b ys/\(xs.length<=i\/ys.length<=i)⟩
theorem zit{P:Program}{w:World}{K:PySem.W.Frag}{b1 b2:Bool}{elts:List Expr}{x1}{tpos:Pos}{l1 l2 z TI TO i1 i2:Addr}(D:ZipApart z TI TO i1 i2 l1 l2):
  zeh P w K (.Tuple elts x1 tpos) (Izg b1 b2 K l1 l2) [z,TI,TO,i1,i2] z (λi h=>IsZip h z TI TO .none/\IsPair h TI (.ref i1) (.ref i2)/\(∃a b,IsPair h TO a b)/\zIt b1 h i1 l1 i/\zIt b2 h i2 l2 i) where
 mem:=by simp
 obj:=λi h st b hb=>by
  obtain⟨hz,hTI,⟨a,b',hTO⟩,h1,h2⟩:=st;simp only[List.mem_cons,List.not_mem_nil,or_false]at hb;rcases hb with rfl|rfl|rfl|rfl|rfl
  ·exact⟨_,hz,λv q=>by cases (show Data.fields _=Data.cell v from q)⟩
  ·exact⟨_,hTI,λv q=>by cases (show Data.seq _ _=Data.cell v from q)⟩
  ·exact⟨_,hTO,λv q=>by cases (show Data.seq _ _=Data.cell v from q)⟩
  ·exact h1.own
  ·exact h2.own
 keep:=λi h h' st k=>by
  obtain⟨hz,hTI,⟨a,b',hTO⟩,h1,h2⟩:=st;exact⟨k _ (by simp) _ hz,k _ (by simp) _ hTI,⟨a,b',k _ (by simp) _ hTO⟩,h1.at λo e=>k i1 (by simp) o e,h2.at λo e=>k i2 (by simp) o e⟩
 item:=by
  intro X hP hw hK hc i pins s σ H E I hf st hg;subst hP hw hK;refine gg λG zk=>?_;obtain⟨xs,ys,x,y,hq1,hq2,hx,hy⟩:=hg;obtain⟨hz,hTI,⟨a,b',hTO⟩,h1,h2⟩:=st;obtain⟨its1,rv1,p1,hz1⟩:=I.sqG hq1;obtain⟨its2,rv2,p2,hz2⟩:=I.sqG hq2;obtain⟨u1,hu1,ru1⟩:=rv1.get hx;obtain⟨u2,hu2,ru2⟩:=rv2.get hy;refine zk ?_;clear zk;refine zbg D hz hTI hTO h1 h2 p1 p2 (x:=u1) (y:=u2) (by simpa using hu1) (by simpa using hu2) λh' hz' hTO' h1' h2' hp' hsz hk=>⟨_,rfl,?_⟩
  refine wpAny_letOwnedTupleGo_zip hz' λh'' hz'' hsb=>?_;have ne:s.heap.objs.size≠z:=λq=>by have:=Heap.lt_size hz;rw[<-q]at this;exact Nat.lt_irrefl _ this
  have hp2:IsPair h'' s.heap.objs.size u1 u2:=(hsb.2 _ ne).trans hp';have nb:∀c o,s.heap.get? c=some o->c≠s.heap.objs.size:=λc o e=>Nat.ne_of_lt (Heap.lt_size e);have I1:Inv X pins σ (upd H s.heap.objs.size (.tup [x,y])) { s with heap:=h'',toks:=s.toks }:=by
   refine I.turnedNew (ch:=[z,TI,TO,i1,i2]) hf (Nat.le_refl _) (λb u hb e=>?_) ⟨by simp[sizeLine_eq],[u1,u2],.cons ru1 (.cons ru2 .nil),?_⟩
   ·simp only[List.mem_cons,List.not_mem_nil,or_false,not_or]at hb;exact(hsb.2 b hb.1).trans (hk b u hb.1 hb.2.2.1 hb.2.2.2.1 hb.2.2.2.2 e)
   ·exact⟨_,hp2,rfl,⟨_,rfl⟩,rfl⟩
  refine⟨.ref s.heap.objs.size,_,I1,rfl,⟨_,x,y,I.hok.fresh (Nat.le_refl _),rfl,rfl,λxs' h=>by rw[I.sqG_inj h hq1];exact hx,λys' h=>by rw[I.sqG_inj h hq2];exact hy⟩,⟨hz'',?_,?_,?_,?_⟩,λb hb=>?_⟩
  ·exact(hsb.2 _ D.TIz).trans (hk _ _ D.TIz D.TITO D.TIi1 D.TIi2 hTI)
  ·exact⟨_,_,(hsb.2 _ D.TOz).trans hTO'⟩
  ·exact h1'.at λo e=>(hsb.2 _ D.i1z).trans e
  ·exact h2'.at λo e=>(hsb.2 _ D.i2z).trans e
  ·rw[zj]
   ·exact(hf b hb).1
   ·intro q;subst q;simp only[List.mem_cons,List.not_mem_nil,or_false]at hb;obtain⟨o1,e1,_⟩:=h1.own;obtain⟨o2,e2,_⟩:=h2.own;rcases hb with q|q|q|q|q
    ·exact nb _ _ hz q.symm
    ·exact nb _ _ hTI q.symm
    ·exact nb _ _ hTO q.symm
    ·exact nb _ _ e1 q.symm
    ·exact nb _ _ e2 q.symm
 done:=by
  intro X hP hw hK hc i pins s σ H E I hf st hg;subst hP hw hK;obtain⟨xs,ys,hq1,hq2,hl⟩:=hg;obtain⟨hz,hTI,⟨a,b',hTO⟩,h1,h2⟩:=st;obtain⟨its1,rv1,p1,hz1⟩:=I.sqG hq1;obtain⟨its2,rv2,p2,hz2⟩:=I.sqG hq2;have e1:=rv1.length;have e2:=rv2.length;refine zca (I.ok.hd hc) D hz hTI hTO h1 h2 p1 p2 (by rcases hl with q|q;exact .inl (by simp;omega);exact .inr (by simp;omega)) λh' hk=>⟨rfl,?_⟩
  refine I.turnedL (t':=s.toks) (ch:=[z,TI,TO,i1,i2]) hf λb u hb e=>?_;simp only[List.mem_cons,List.not_mem_nil,or_false,not_or]at hb;exact hk b u hb.1 hb.2.2.1 hb.2.2.2.1 hb.2.2.2.2 e
 self:=λ_ _ _ _ _ st h=>wpAny_pyIter_zip st.1 h
section
variable {X:Cx}
end
inductive Kn(H:Hp):V->Prop
 |non:Kn H .non
 |bl (b:Bool):Kn H (.bl b)
 |int (i:Int):Kn H (.int i)
 |str (x:Str):Kn H (.str x)
 |lst {a:Addr}{xs:List V} (e:H a=some (.lst xs)):Kn H (.ref a)
 |tup {a:Addr}{xs:List V} (e:H a=some (.tup xs)):Kn H (.ref a)
 |dct {a:Addr}{ks:List (Key×V)} (e:H a=some (.dK ks)):Kn H (.ref a)
def qz(H:Hp):V->Option (List V)
 |.ref a=>match H a with|some (.tup xs)=>some xs|_=>none
 |_=>none
theorem zcy{H:Hp}{a:Addr}{xs:List V}(e:H a=some (.tup xs)):qz H (.ref a)=some xs:=by unfold qz;simp only[e]
def Th:Nat->Hp->V->Prop
 |0,H,x=>Kn H x
 |n+1,H,x=>Kn H x/\∀xs,qz H x=some xs->∀y∈xs,Th n H y
theorem Th.tup{n:Nat}{H:Hp}{a:Addr}{xs:List V}(e:H a=some (.tup xs))(h:∀y∈xs,Th n H y):Th (n+1) H (.ref a) :=
 ⟨.tup e,λys e' y hy=>by rw[zcy e]at e';cases e';exact h y hy⟩
theorem Th.flat{n:Nat}{H:Hp}{x:V}(h:Kn H x)(e:qz H x=none):Th n H x:=by
 cases n with
 |zero=>exact h
 |succ n=>exact⟨h,λxs e'=>by rw[e]at e';cases e'⟩
theorem Th.int(n:Nat)(H:Hp)(i:Int):Th n H (.int i):=Th.flat (.int i) rfl
theorem Th.str(n:Nat)(H:Hp)(x:Str):Th n H (.str x):=Th.flat (.str x) rfl
theorem Th.lst(n:Nat){H:Hp}{a:Addr}{xs:List V}(e:H a=some (.lst xs)):Th n H (.ref a):=Th.flat (.lst e) (by unfold qz;simp only[e])
theorem Th.dct(n:Nat){H:Hp}{a:Addr}{ks:List (Key×V)}(e:H a=some (.dK ks)):Th n H (.ref a):=Th.flat (.dct e) (by unfold qz;simp only[e])
def inB(lo hi:Int):V->Bool
 |.int i=>decide (lo<=i) && decide (i<=hi)
 |_=>false
def ztc:List (Int×Int)->List V->Bool
 |[],[]=>true
 |b::bs,x::xs=>inB b.1 b.2 x && ztc bs xs
 |_,_=>false
def whB(bs:List (Int×Int)):Option (List V)->Bool
 |some xs=>ztc bs xs
 |none=>false
theorem zj8{α:Type}{xs:List α}{k:Int}(h0:0<=k)(h1:k<xs.length):∃v,atI xs k=some v/\v∈xs:=by
 obtain⟨v,h,e⟩:=zqb h0 h1;exact⟨v,h,List.mem_of_getElem? e⟩
theorem zer{K:PySem.W.Frag}{H:Hp}{a:Addr}{its:Array Value}{n:Nat}{sl:Array (Option Value)}{xs:List V}(l:K.lookup a=some ⟨.type "tuple",none,.seq its n,sl⟩)(hz:its.size<=10000)(r:Vals xs its.toList):SqT K H a xs:=.inr ⟨_,its,n,l,rfl,rfl,rfl,zqa hz,r⟩
def ztd(i j k:Nat)(ta:TA):TS:=λD σ H=>ta σ H λvs H1=>∃u v w,vs = [u,v,w]/\D.nx (((σ.set i (some u)).set j (some v)).set k (some w)) H1
theorem zm3{X:Cx}{i j k:Nat}{x y z:Str}{a b c:Expr}{ta:TA}{px py pz pt pos:Pos}{kt k2 pt2}(hc:X.calm=true)(hN:X.N.Nodup)(hi:X.N[i]?=some x)(hj:X.N[j]?=some y)(hk:X.N[k]?=some z)(hij:i≠j)(hik:i≠k)(hjk:j≠k)
  (hx:X.env.scope.names.lookup x=some .local) (hy:X.env.scope.names.lookup y=some .local) (hz:X.env.scope.names.lookup z=some .local) (ha:PA X [a,b,c] ta)
  (hw:swappedStores [.Tuple [.Name x px,.Name y py,.Name z pz] kt pt] (.Tuple [a,b,c] k2 pt2) X.env=pure (some [x,y,z]))
  (hs:swapsWithSole [.Tuple [.Name x px,.Name y py,.Name z pz] kt pt] (.Tuple [a,b,c] k2 pt2) pos.line X.env=pure false:=by rfl) :
  PS X (.Assign [.Tuple [.Name x px,.Name y py,.Name z pz] kt pt] (.Tuple [a,b,c] k2 pt2) pos) (ztd i j k ta):=by
 intro pins s σ H D I h;rw[exec_Assign_arm];refine wpAny_bind (wpAny_standAt ?_);rw[hs];refine wpAny_bind (wpAny_pure ?_);rw[if_neg (by decide)];refine wpAny_bind (Tuple_ (thn (ha _ pins s σ H _ I h) λus s1 zr86=>?_));obtain⟨vs,H1,I1,r1,q1⟩:=zr86;obtain⟨v1,v2,v3,e1,q1⟩:=q1;subst e1;obtain⟨u1,u2,u3,rfl,r1,r2,r3⟩:∃u1 u2 u3,us = [u1,u2,u3]/\RelV v1 u1/\RelV v2 u2/\RelV v3 u3:=by
  cases r1 with
  |cons p q=>
   cases q with
   |cons p' q'=>
    cases q' with
    |cons p'' q''=>
     cases q'';exact⟨_,_,_,rfl,p,p',p''⟩
 refine wpAny_newObj_type ?_ (by show 3<=sizeLine;decide);have I2:Inv X pins σ H1 { s1 with heap:=s1.heap.push { cls:=.type "tuple",data:=.seq [u1,u2,u3].toArray } }:=I1.kept (t':=s1.toks) λb o e=>Heap.get?_push_of_some _ e;rw[hw];refine wpAny_bind (wpAny_pure ?_);show wpAny (model X.prog X.w) X.A (do rule "assign.swapped-stores";let items <-unpackItems (.ref s1.heap.objs.size) 3 none;assignInOrder [λv=>bindName X.env z v,λv=>bindName X.env y v,λv=>bindName X.env x v] items.reverse;pure Flow.next) _ _ _;refine wpAny_bind (wpAny_rule (wpAny_bind (unpackItems_tuple (items:=#[u1,u2,u3]) (I.ok.hd hc) (IsTup.new s1.heap _) λh' hx'=>?_)));have I3:=I2.kept (h':=h') (t':=s1.toks) λb o e=>hx' b o (Nat.ne_of_lt (Heap.lt_size e)) e;show wpAny _ _ (assignInOrder [λv=>bindName X.env z v,λv=>bindName X.env y v,λv=>bindName X.env x v] [u3,u2,u1] >>= λ_=>pure Flow.next) _ _ _;refine wpAny_bind (assignInOrder_cons (wpAny_bindName (xo I3 hN hk (.inl hz) r3 (λs2 I4=>?_) (.inr hz))));refine assignInOrder_cons (wpAny_bindName (xo I4 hN hj (.inl hy) r2 (λs3 I5=>?_) (.inr hy)));refine assignInOrder_cons (wpAny_bindName (xo I5 hN hi (.inl hx) r1 (λs4 I6=>assignInOrder_nil (wpAny_pure ?_)) (.inr hx)));have e:(((σ.set k (some v3)).set j (some v2)).set i (some v1))=(((σ.set i (some v1)).set j (some v2)).set k (some v3)):=by
  rw[List.set_comm _ _ (Ne.symm hjk),List.set_comm _ _ (Ne.symm hik),List.set_comm _ _ (Ne.symm hij)]
 rw[e]at I6;exact⟨_,H1,I6,q1⟩
theorem ziu{X:Cx}:OpR X (compareOp .IsNot) (λx y H Q=>∃a b,x=.bl a/\y=.bl b/\Q (.bl (!decide (a=b))) H):=by
 intro pins s σ H x y v u Q I rx ry h;obtain⟨a,b,rfl,rfl,q⟩:=h
 cases rx
 cases ry
 cases a <;> cases b <;> exact wpAny_pure (ye I q rfl)
def NoD(H:Hp)(x:V):Prop:=∀a,x=.ref a->(∃xs,H a=some (.lst xs))\/∃xs,H a=some (.tup xs)
end L2
namespace L2
end L2
namespace L2
open PySem
theorem zj9{es:List Expr}{x1}{pos:Pos}{rest:List Expr}{env:Env}:starEach (.Tuple es x1 pos::rest) env=(false,eval (.Tuple es x1 pos) env)::starEach rest env:=by rw[starEach];intro e p h;cases h
theorem y7{c j}{pos:Pos}{rest:List Expr}{env:Env}:starEach (.Constant c j pos::rest) env=(false,eval (.Constant c j pos) env)::starEach rest env:=by rw[starEach];intro e p h;cases h
end L2
namespace L2
open PySem PySem.Spec PyProof.Rows
end L2
namespace L2
open PySem
theorem zte{X:Cx}{e:Expr}{t:TT}(h:PW X e t):PT X e t:=h.pt
end L2
namespace L2
open PySem PySem.Spec PyProof.Rows
def Ts:Nat->Hp->V->Prop
 |0,H,x=>Kn H x/\NoD H x
 |n+1,H,x=>Kn H x/\∀xs,qz H x=some xs->∀y∈xs,Ts n H y
theorem Ts.tup{n:Nat}{H:Hp}{a:Addr}{xs:List V}(e:H a=some (.tup xs))(h:∀y∈xs,Ts n H y):Ts (n+1) H (.ref a) :=
 ⟨.tup e,λys e' y hy=>by rw[zcy e]at e';cases e';exact h y hy⟩
theorem Ts.flat{n:Nat}{H:Hp}{x:V}(h:Kn H x)(e:qz H x=none)(d:NoD H x):Ts n H x:=by
 cases n with
 |zero=>exact⟨h,d⟩
 |succ n=>exact⟨h,λxs e'=>by rw[e]at e';cases e'⟩
theorem Ts.int(n:Nat)(H:Hp)(i:Int):Ts n H (.int i):=Ts.flat (.int i) rfl (λ_ z=>by cases z)
theorem Ts.str(n:Nat)(H:Hp)(x:Str):Ts n H (.str x):=Ts.flat (.str x) rfl (λ_ z=>by cases z)
theorem Ts.lst(n:Nat){H:Hp}{a:Addr}{xs:List V}(e:H a=some (.lst xs)):Ts n H (.ref a):=Ts.flat (.lst e) (by unfold qz;simp only[e]) (λc z=>by cases z;exact .inl ⟨xs,e⟩)
theorem Ts.dct(n:Nat){H:Hp}{a:Addr}{ks:List (Key×V)}(e:H a=some (.dK ks)):Ts (n+1) H (.ref a):=⟨.dct e,λxs e'=>by unfold qz at e';simp only[e]at e';cases e'⟩
open AutoSeq1 (wpAny_loadPart')
section
variable {X:Cx}
end
end L2
namespace L2
end L2
namespace L2
open PySem PySem.Spec PyProof.Rows
section
variable {X:Cx}{a b c d:Expr}{ta tb tc td:TE}{pos:Pos}
end
abbrev D:=PyData
def kD:Key->D
 |.inl i=>.int i
 |.inr x=>.str x
def j4(a:Addr):HO:=.ext λh=>∃(x y z:Int) (tx ty tz:Tok) (n:Nat),h.get? a=some { cls:=.type "list",data:=.seq #[.int x tx,.int y ty,.int z tz] n }
def HO.per:HO->Bool
 |.tup _=>true
 |.frz _ _=>true
 |.ext _=>true
 |_=>false
def Pers(H H':Hp):Prop:=∀a o,H a=some o->o.per=true->H' a=some o
theorem Pers.refl(H:Hp):Pers H H:=λ_ _ h _=>h
theorem Pers.trans{H H1 H2:Hp}(a:Pers H H1)(b:Pers H1 H2):Pers H H2:=λc o h p=>b c o (a c o h p) p
theorem Same.pers{H H':Hp}(s:Same H H'):Pers H H':=λa o h _=>s a o h
theorem Pers.sqT{K:PySem.W.Frag}{H H':Hp}{a:Addr}{xs:List V}(p:Pers H H')(h:SqT K H a xs):SqT K H' a xs:=by
 rcases h with(h |⟨o,h⟩)|h
 ·exact .inl (.inl (p _ _ h rfl))
 ·exact .inl (.inr ⟨o,p _ _ h rfl⟩)
 ·exact .inr h
section
variable (K:PySem.W.Frag)
mutual
inductive Rep(H:Hp):D->V->Prop
 |non:Rep H .none .non
 |bl {b:Bool}:Rep H (.bool b) (.bl b)
 |int {i:Int}:Rep H (.int i) (.int i)
 |str {x:Str}:Rep H (.str x) (.str x)
 |tup {xs:List D}{a:Addr}{vs:List V} (h:SqT K H a vs) (r:Reps H xs vs):Rep H (.tuple xs) (.ref a)
 |lst {xs:List D}{a:Addr}{vs:List V}{o:Obj} (h:H a=some (.frz o (.lst vs))) (r:Reps H xs vs):Rep H (.list xs) (.ref a)
 |dic {kvs:List (D×D)}{a:Addr}{kws:List (Key×V)}{o:Obj} (h:H a=some (.frz o (.dK kws))) (r:RepK H kvs kws):Rep H (.dict kvs) (.ref a)
inductive Reps(H:Hp):List D->List V->Prop
 |nil:Reps H [] []
 |cons {d:D}{v:V}{ds:List D}{vs:List V} (r:Rep H d v) (t:Reps H ds vs):Reps H (d::ds) (v::vs)
inductive RepK(H:Hp):List (D×D)->List (Key×V)->Prop
 |nil:RepK H [] []
 |cons {k:Key}{d:D}{v:V}{ds:List (D×D)}{vs:List (Key×V)} (r:Rep H d v) (t:RepK H ds vs):RepK H ((kD k,d)::ds) ((k,v)::vs)
end
end
section
variable {K:PySem.W.Frag}{H H':Hp}
theorem Rep.mono(p:Pers H H'){d:D}{v:V}(h:Rep K H d v):Rep K H' d v :=
 Rep.rec (motive_1:=λd v _=>Rep K H' d v) (motive_2:=λds vs _=>Reps K H' ds vs) (motive_3:=λds vs _=>RepK K H' ds vs) .non .bl .int .str (λh _ i=>.tup (p.sqT h) i) (λh _ i=>.lst (p _ _ h rfl) i) (λh _ i=>.dic (p _ _ h rfl) i) .nil (λ_ _ i j=>.cons i j) .nil (λ_ _ i j=>.cons i j) h
theorem Reps.ind{P:List D->List V->Prop}(n:P [] [])(c:∀d v ds vs,Rep K H d v->Reps K H ds vs->P ds vs->P (d::ds) (v::vs)){ds:List D}{vs:List V}(h:Reps K H ds vs):P ds vs :=
 Reps.rec (motive_1:=λ_ _ _=>True) (motive_2:=λds vs _=>P ds vs) (motive_3:=λ_ _ _=>True) trivial trivial trivial trivial (λ_ _ _=>trivial) (λ_ _ _=>trivial) (λ_ _ _=>trivial) n (λr t _ j=>c _ _ _ _ r t j) trivial (λ_ _ _ _=>trivial) h
theorem Reps.mono(p:Pers H H'){ds:List D}{vs:List V}(h:Reps K H ds vs):Reps K H' ds vs:=h.ind .nil λ_ _ _ _ r _ j=>.cons (r.mono p) j
theorem RepK.mono(p:Pers H H'){ds:List (D×D)}{vs:List (Key×V)}(h:RepK K H ds vs):RepK K H' ds vs :=
 RepK.rec (motive_1:=λ_ _ _=>True) (motive_2:=λ_ _ _=>True) (motive_3:=λds vs _=>RepK K H' ds vs) trivial trivial trivial trivial (λ_ _ _=>trivial) (λ_ _ _=>trivial) (λ_ _ _=>trivial) trivial (λ_ _ _ _=>trivial) .nil (λr _ _ j=>.cons (r.mono p) j) h
theorem Reps.length{ds:List D}{vs:List V}(h:Reps K H ds vs):ds.length=vs.length:=h.ind (P:=λds vs=>ds.length=vs.length) rfl λ_ _ _ _ _ _ j=>congrArg (·+1) j
theorem Reps.append{ds es:List D}{vs ws:List V}(h:Reps K H ds vs)(s:Reps K H es ws):Reps K H (ds++es) (vs++ws):=h.ind (P:=λds vs=>Reps K H (ds++es) (vs++ws)) s λ_ _ _ _ r _ j=>.cons r j
theorem Reps.get{ds:List D}{vs:List V}{i:Nat}{d:D}(h:Reps K H ds vs):ds[i]?=some d->∃v,vs[i]?=some v/\Rep K H d v :=
 h.ind (P:=λds vs=>∀i:Nat,ds[i]?=some d->∃v,vs[i]?=some v/\Rep K H d v) (λ_ e=>nomatch e) (λd' v ds vs r _ j i e=>by
  cases i with
  |zero=>cases e;exact⟨v,rfl,r⟩
  |succ i=>exact j i e) i
theorem Reps.take{ds:List D}{vs:List V}(n:Nat)(h:Reps K H ds vs):Reps K H (ds.take n) (vs.take n) :=
 h.ind (P:=λds vs=>∀n:Nat,Reps K H (ds.take n) (vs.take n)) (λn=>by rw[List.take_nil,List.take_nil];exact .nil) (λ_ _ _ _ r _ j n=>by
  cases n with
  |zero=>exact .nil
  |succ n=>exact .cons r (j n)) n
theorem Reps.drop{ds:List D}{vs:List V}(n:Nat)(h:Reps K H ds vs):Reps K H (ds.drop n) (vs.drop n) :=
 h.ind (P:=λds vs=>∀n:Nat,Reps K H (ds.drop n) (vs.drop n)) (λn=>by rw[List.drop_nil,List.drop_nil];exact .nil) (λ_ _ _ _ r t j n=>by
  cases n with
  |zero=>exact .cons r t
  |succ n=>exact j n) n
theorem Reps.set{d:D}{v:V}(r:Rep K H d v){ds:List D}{vs:List V}(i:Nat)(h:Reps K H ds vs):Reps K H (ds.set i d) (vs.set i v) :=
 h.ind (P:=λds vs=>∀i:Nat,Reps K H (ds.set i d) (vs.set i v)) (λ_=>.nil) (λ_ _ _ _ q t j i=>by
  cases i with
  |zero=>exact .cons r t
  |succ i=>exact .cons q (j i)) i
theorem Reps.reverse{ds:List D}{vs:List V}(h:Reps K H ds vs):Reps K H ds.reverse vs.reverse:=by
 induction ds generalizing vs with
 |nil=>cases h;exact .nil
 |cons d ds ih=>
  cases h with
  |cons r t=>rw[List.reverse_cons,List.reverse_cons];exact(ih t).append (.cons r .nil)
theorem Reps.rep{ds:List D}{vs:List V}(h:Reps K H ds vs):∀k:Nat,Reps K H (List.replicate k ds).flatten (List.replicate k vs).flatten
 |0=>.nil
 |k+1=>by
  rw[List.replicate_succ,List.replicate_succ,List.flatten_cons,List.flatten_cons];exact h.append (h.rep k)
theorem Reps.ints:∀{ns:List Int},Reps K H (ns.map PyData.int) (ns.map V.int)
 |[]=>.nil
 |_::_=>.cons .int Reps.ints
theorem Reps.same(s:Same H H'){ds:List D}{vs:List V}(r:Reps K H ds vs):Reps K H' ds vs:=r.mono s.pers
theorem Rep.same(s:Same H H'){d:D}{v:V}(r:Rep K H d v):Rep K H' d v:=r.mono s.pers
end
section
variable (K:PySem.W.Frag)
mutual
inductive RepN(H:Hp):D->V->Prop
 |non:RepN H .none .non
 |bl {b:Bool}:RepN H (.bool b) (.bl b)
 |int {i:Int}:RepN H (.int i) (.int i)
 |str {x:Str}:RepN H (.str x) (.str x)
 |tup {xs:List D}{a:Addr}{vs:List V} (h:SqT K H a vs) (r:RepNs H xs vs):RepN H (.tuple xs) (.ref a)
 |lst {xs:List D}{a:Addr}{vs:List V} (h:Rd H a (.lst vs)) (r:RepNs H xs vs):RepN H (.list xs) (.ref a)
inductive RepNs(H:Hp):List D->List V->Prop
 |nil:RepNs H [] []
 |cons {d:D}{v:V}{ds:List D}{vs:List V} (r:RepN H d v) (t:RepNs H ds vs):RepNs H (d::ds) (v::vs)
end
end
section
variable {K:PySem.W.Frag}{H H':Hp}
theorem Same.rd(s:Same H H'){a:Addr}{u:HO}(h:Rd H a u):Rd H' a u:=by
 rcases h with h |⟨o,h⟩
 ·exact .inl (s _ _ h)
 ·exact .inr ⟨o,s _ _ h⟩
theorem RepN.gen(ht:∀{a vs},SqT K H a vs->SqT K H' a vs)(hl:∀{a vs},Rd H a (.lst vs)->Rd H' a (.lst vs)){d:D}{v:V}(h:RepN K H d v):RepN K H' d v :=
 RepN.rec (motive_1:=λd v _=>RepN K H' d v) (motive_2:=λds vs _=>RepNs K H' ds vs) .non .bl .int .str (λh _ i=>.tup (ht h) i) (λh _ i=>.lst (hl h) i) .nil (λ_ _ i j=>.cons i j) h
theorem RepNs.ind{P:List D->List V->Prop}(n:P [] [])(c:∀d v ds vs,RepN K H d v->RepNs K H ds vs->P ds vs->P (d::ds) (v::vs)){ds:List D}{vs:List V}(h:RepNs K H ds vs):P ds vs :=
 RepNs.rec (motive_1:=λ_ _ _=>True) (motive_2:=λds vs _=>P ds vs) trivial trivial trivial trivial (λ_ _ _=>trivial) (λ_ _ _=>trivial) n (λr t _ j=>c _ _ _ _ r t j) h
theorem RepN.same(s:Same H H'){d:D}{v:V}(h:RepN K H d v):RepN K H' d v:=h.gen (λh=>s.pers.sqT h) (λh=>s.rd h)
theorem RepN.frz{a:Addr}{vs:List V}{o:Obj}(e:H a=some (.lst vs)){d:D}{v:V}(h:RepN K H d v):RepN K (upd H a (.frz o (.lst vs))) d v:=by
 have ne:∀{b:Addr}{u:HO},H b=some u->u ≠ .lst vs->b≠a:=λ{b u} h n z=>by rw[z,e]at h;cases h;exact n rfl
 refine h.gen (λ{b ws} h=>?_) (λ{b ws} h=>?_)
 ·rcases h with(h |⟨o,h⟩)|h
  ·exact .inl (.inl (by rw[zj (ne h (by intro z;cases z))];exact h))
  ·exact .inl (.inr ⟨o,by rw[zj (ne h (by intro z;cases z))];exact h⟩)
  ·exact .inr h
 ·rcases h with h |⟨o',h⟩
  ·by_cases z:b=a
   ·subst z;rw[e]at h
    cases h;exact .inr ⟨_,zl⟩
   ·exact .inl (by rw[zj z];exact h)
  ·exact .inr ⟨o',by rw[zj (ne h (by intro z;cases z))];exact h⟩
end
inductive Mx where
 |v (d:D)|l (xs:List D)
inductive O where
 |lst (xs:List D)
 |dct (kvs:List (Key×D))
 |nst (xss:List (List D)) (ds:List D)
 |anc (a:Addr) (o:O)
 |ins (c:Str) (fs:List (Str×D))
 |mix (ms:List Mx)
 |tk (ks:List Key)
 |dcT (kvs:List (List Key×D))
inductive W where
 |val (d:D)|vw (xs:List D)|vd (xs:List (Key×D))|exc (x:Str×List (Str×Int))|scr (ns:List Int)|pen|tmp (d:D)|own (o:O)
abbrev DSt:=List (Option W)
def zqc:Option W->Option W
 |some (.tmp _)=>none
 |w=>w
def clr(σ:DSt):DSt:=σ.map zqc
section
variable (K:PySem.W.Frag)
def RepL(H:Hp)(xs:List D)(v:V):Prop:=∃a vs,v=.ref a/\Rd H a (.lst vs)/\Reps K H xs vs
def RepT(H:Hp)(d:D)(v:V):Prop:=Rep K H d v\/∃xs,d=.list xs/\RepL K H xs v
def RepKV{κ:Type}(K:PySem.W.Frag)(H:Hp)(ks:List (κ×D))(vs:List (κ×V)):Prop:=ks.map (·.1)=vs.map (·.1)/\Reps K H (ks.map (·.2)) (vs.map (·.2))
def Nst(H:Hp):List (List D)->List Addr->Prop
 |[],[]=>True
 |xs::xss,b::bs=>(∃vs,H b=some (.lst vs)/\Reps K H xs vs)/\Nst H xss bs
 |_,_=>False
def MxR(H:Hp):List Mx->List V->List Addr->Prop
 |[],[],[]=>True
 |.v d::ms,u::us,bs=>Rep K H d u/\MxR H ms us bs
 |.l xs::ms,u::us,b::bs=>u=.ref b/\(∃vs,H b=some (.lst vs)/\Reps K H xs vs)/\MxR H ms us bs
 |_,_,_=>False
def RepO(H:Hp):O->V->List Addr->Prop
 |.mix ms,v,fp=>∃a us bs,v=.ref a/\fp=a::bs/\H a=some (.lst us)/\MxR K H ms us bs
 |.lst xs,v,fp=>∃a vs,v=.ref a/\fp = [a]/\H a=some (.lst vs)/\Reps K H xs vs
 |.dct ks,v,fp=>∃a vs,v=.ref a/\fp = [a]/\H a=some (.dK vs)/\RepKV K H ks vs
 |.nst xss ds,v,fp=>∃a as us,v=.ref a/\fp=a::as/\H a=some (.lst (as.map V.ref++us))/\Nst K H xss as/\Reps K H ds us
 |.tk ks,v,fp=>∃a,v=.ref a/\fp = []/\H a=some (.tup (ks.map kV))
 |.dcT ks,v,fp=>∃a vs,v=.ref a/\fp = [a]/\H a=some (.dT vs)/\RepKV K H ks vs
 |.anc a o,v,fp=>v=.ref a/\RepO H o v fp
 |.ins c fs,v,fp=>∃a dx C fv,v=.ref a/\fp = [a,dx]/\PySem.W.nsIn K mainGlobals c=some (some (.ref C))/\H a=some (.ins C dx fv)/\H dx=some (.own a)/\fv.map (·.1)=fs.map (·.1)/\Reps K H (fs.map (·.2)) (fv.map (·.2))
def RepD(H:Hp)(xs:List (Key×D))(v:V):Prop:=∃a vs,v=.ref a/\H a=some (.dK vs)/\RepKV K H xs vs
def zun(C:Addr)(od:Option Addr)(a:Addr):HO:=.ext λh=>∃oe,h.get? a=some oe/\oe.cls=.ref C/\oe.dict=od/\∃vs,oe.data=.fields vs
def RepX(H:Hp)(x:Str×List (Str×Int))(v:V):Prop:=∃a C od,v=.ref a/\PySem.W.nsIn K mainGlobals x.1=some (some (.ref C))/\H a=some (zun C od a)/\((x.2 = []/\od=none)\/∃d,od=some d/\H d=some (.xd (x.2.map λp=>(p.1,V.int p.2))))
inductive Slots(H₀ H:Hp):DSt->St->List Addr->Prop
 |nil:Slots H₀ H [] [] []
 |none {v:Option V}{ws:DSt}{vs:St}{fp:List Addr} (t:Slots H₀ H ws vs fp):Slots H₀ H (Option.none::ws) (v::vs) fp
 |val {d:D}{v:V}{ws:DSt}{vs:St}{fp:List Addr} (r:Rep K H d v) (t:Slots H₀ H ws vs fp):Slots H₀ H (some (.val d)::ws) (some v::vs) fp
 |vw {xs:List D}{v:V}{ws:DSt}{vs:St}{fp:List Addr} (r:RepL K H₀ xs v) (t:Slots H₀ H ws vs fp):Slots H₀ H (some (.vw xs)::ws) (some v::vs) fp
 |vd {xs:List (Key×D)}{v:V}{ws:DSt}{vs:St}{fp:List Addr} (r:RepD K H₀ xs v) (t:Slots H₀ H ws vs fp):Slots H₀ H (some (.vd xs)::ws) (some v::vs) fp
 |exc {xs:Str×List (Str×Int)}{v:V}{ws:DSt}{vs:St}{fp:List Addr} (r:RepX K H₀ xs v) (t:Slots H₀ H ws vs fp):Slots H₀ H (some (.exc xs)::ws) (some v::vs) fp
 |scr {ns:List Int}{a:Addr}{ws:DSt}{vs:St}{fp:List Addr} (r:SqL K H₀ a (ns.map V.int)) (t:Slots H₀ H ws vs fp):Slots H₀ H (some (.scr ns)::ws) (some (.ref a)::vs) fp
 |pen {a:Addr}{ws:DSt}{vs:St}{fp:List Addr} (r:H a=some (j4 a)) (t:Slots H₀ H ws vs fp):Slots H₀ H (some .pen::ws) (some (.ref a)::vs) fp
 |tmp {d:D}{v:V}{ws:DSt}{vs:St}{fp:List Addr} (r:RepN K H d v) (t:Slots H₀ H ws vs fp):Slots H₀ H (some (.tmp d)::ws) (some v::vs) fp
 |own {o:O}{v:V}{f:List Addr}{ws:DSt}{vs:St}{fp:List Addr} (r:RepO K H o v f) (t:Slots H₀ H ws vs fp):Slots H₀ H (some (.own o)::ws) (some v::vs) (f++fp)
structure DOk(H₀ H:Hp)(σD:DSt)(σ:St):Prop where
 same:Same H₀ H
 slots:∃fp,Slots K H₀ H σD σ fp/\fp.Nodup/\∀a∈fp,H₀ a=none
end
section
variable {K:PySem.W.Frag}{H₀ H H':Hp}{σD:DSt}{σ:St}
theorem RepX.same(s:Same H H'){xs:Str×List (Str×Int)}{v:V}:RepX K H xs v->RepX K H' xs v:=by
 rintro ⟨a,C,od,rfl,n,h,r⟩;refine⟨a,C,od,rfl,n,s _ _ h,?_⟩;rcases r with r |⟨d,e,r⟩
 ·exact .inl r
 ·exact .inr ⟨d,e,s _ _ r⟩
theorem RepD.same(s:Same H H'){xs:List (Key×D)}{v:V}:RepD K H xs v->RepD K H' xs v:=by
 rintro ⟨a,vs,rfl,h,r⟩;exact⟨a,vs,rfl,s _ _ h,r.1,r.2.same s⟩
theorem RepL.same(s:Same H H'){xs:List D}{v:V}:RepL K H xs v->RepL K H' xs v:=by
 rintro ⟨a,vs,rfl,h,r⟩;refine⟨a,vs,rfl,?_,r.same s⟩;rcases h with h |⟨o,h⟩
 ·exact .inl (s _ _ h)
 ·exact .inr ⟨o,s _ _ h⟩
theorem RepT.same(s:Same H H'){d:D}{v:V}:RepT K H d v->RepT K H' d v
 |.inl h=>.inl (h.same s)
 |.inr ⟨xs,e,h⟩=>.inr ⟨xs,e,h.same s⟩
theorem Rep.top{d:D}{v:V}(h:Rep K H d v):RepT K H d v:=.inl h
theorem RepT.list{xs:List D}{v:V}(h:RepT K H (.list xs) v):RepL K H xs v:=by
 rcases h with h |⟨ys,e,h⟩
 ·cases h with
  |lst h r=>exact⟨_,_,rfl,.inr ⟨_,h⟩,r⟩
 ·cases e;exact h
theorem RepL.sq{xs:List D}{v:V}(h:RepL K H xs v):∃a vs,v=.ref a/\SqL K H a vs/\Reps K H xs vs:=by
 obtain⟨a,vs,rfl,h,r⟩:=h;exact⟨a,vs,rfl,.inl h,r⟩
theorem RepT.rep{d:D}{v:V}(h:RepT K H d v)(n:∀xs,d ≠ .list xs):Rep K H d v:=by
 rcases h with h |⟨ys,e,_⟩
 ·exact h
 ·exact absurd e (n ys)
theorem Nst.len:∀{xss:List (List D)}{as:List Addr},Nst K H xss as->as.length=xss.length
 |[],[],_=>rfl
 |_::_,_::_,h=>by rw[List.length_cons,List.length_cons,Nst.len h.2]
theorem Nst.live:∀{xss:List (List D)}{as:List Addr},Nst K H xss as->∀b∈as,∃vs,H b=some (.lst vs)
 |[],[],_,b,hb=>by cases hb
 |_::_,_::_,h,b,hb=>by
  rcases List.mem_cons.mp hb with rfl|hb
  ·obtain⟨vs,e,_⟩:=h.1;exact⟨vs,e⟩
  ·exact Nst.live h.2 b hb
theorem Nst.keep(p:Pers H H'):∀{xss:List (List D)}{as:List Addr},(∀a∈as,∀u,H a=some u->H' a=some u)->Nst K H xss as->Nst K H' xss as
 |[],[],_,_=>trivial
 |_::_,b::_,k,h=>by
  obtain⟨⟨vs,e,r⟩,t⟩:=h;exact⟨⟨vs,k b List.mem_cons_self _ e,r.mono p⟩,Nst.keep p (λa ha=>k a (List.mem_cons_of_mem _ ha)) t⟩
theorem MxR.ind{P:List Mx->List V->List Addr->Prop}(n:P [] [] [])(hv:∀d ms u us bs,Rep K H d u->MxR K H ms us bs->P ms us bs->P (.v d::ms) (u::us) bs)
  (hl:∀xs ms u us b bs,u=.ref b->(∃vs,H b=some (.lst vs)/\Reps K H xs vs)->MxR K H ms us bs->P ms us bs->P (.l xs::ms) (u::us) (b::bs)) {ms:List Mx}{us:List V}{bs:List Addr} (h:MxR K H ms us bs):P ms us bs:=by
 induction ms generalizing us bs with
 |nil=>
  cases us with
  |nil=>
   cases bs with
   |nil=>exact n
   |cons b bs=>exact h.elim
  |cons u us=>exact h.elim
 |cons m ms ih=>
  cases m with
  |v d=>
   cases us with
   |nil=>exact h.elim
   |cons u us=>exact hv _ _ _ _ _ h.1 h.2 (ih h.2)
  |l xs=>
   cases us with
   |nil=>exact h.elim
   |cons u us=>
    cases bs with
    |nil=>exact h.elim
    |cons b bs=>exact hl _ _ _ _ _ _ h.1 h.2.1 h.2.2 (ih h.2.2)
theorem MxR.live{ms:List Mx}{us:List V}{bs:List Addr}(h:MxR K H ms us bs):∀b∈bs,∃vs,H b=some (.lst vs) :=
 h.ind (P:=λ_ _ bs=>∀b∈bs,∃vs,H b=some (.lst vs)) (λ_ hb=>nomatch hb) (λ_ _ _ _ _ _ _ j=>j) λxs ms u us c bs _ l _ j b hb=>by
  rcases List.mem_cons.mp hb with rfl|hb
  ·obtain⟨vs,e,_⟩:=l;exact⟨vs,e⟩
  ·exact j b hb
theorem MxR.keep(p:Pers H H'){ms:List Mx}{us:List V}{bs:List Addr}(k:∀a∈bs,∀u,H a=some u->H' a=some u)(h:MxR K H ms us bs):MxR K H' ms us bs :=
 h.ind (P:=λms us bs=>(∀a∈bs,∀u,H a=some u->H' a=some u)->MxR K H' ms us bs) (λ_=>trivial) (λ_ _ _ _ _ r _ j k=>⟨r.mono p,j k⟩) (λxs ms u us b bs e l _ j k=>by
  obtain⟨vs,e1,r⟩:=l;exact⟨e,⟨vs,k b List.mem_cons_self _ e1,r.mono p⟩,j λa ha=>k a (List.mem_cons_of_mem _ ha)⟩) k
theorem MxR.fp{H2:Hp}{ms:List Mx}{us:List V}{bs cs:List Addr}(h:MxR K H ms us bs):MxR K H2 ms us cs->bs=cs :=
 h.ind (P:=λms us bs=>∀cs,MxR K H2 ms us cs->bs=cs) (λcs g=>by
  cases cs with
  |nil=>rfl
  |cons=>exact g.elim) (λ_ _ _ _ _ _ _ j cs g=>j cs g.2) (λxs ms u us b bs e _ _ j cs g=>by
  cases cs with
  |nil=>exact g.elim
  |cons c cs=>
   have:=e.symm.trans g.1
   cases this;rw[j cs g.2.2]) cs
theorem MxR.len{ms:List Mx}{us:List V}{bs:List Addr}(h:MxR K H ms us bs):ms.length=us.length :=
 h.ind (P:=λms us _=>ms.length=us.length) rfl (λ_ _ _ _ _ _ _ j=>congrArg (·+1) j) λ_ _ _ _ _ _ _ _ _ j=>congrArg (·+1) j
theorem RepO.live{o:O}{v:V}{f:List Addr}(h:RepO K H o v f):∀a∈f,∃u,H a=some u/\u.per=false:=by
 induction o with
 |anc a o ih=>exact ih h.2
 |tk ks=>
  obtain⟨a,rfl,rfl,e⟩:=h;intro b hb
  cases hb
 |dcT ks=>
  obtain⟨a,vs,rfl,rfl,e,r⟩:=h;intro b hb;rw[List.mem_singleton.mp hb];exact⟨_,e,rfl⟩
 |mix ms=>
  obtain⟨a,us,bs,rfl,rfl,e,m⟩:=h;intro b hb;rcases List.mem_cons.mp hb with rfl|hb
  ·exact⟨_,e,rfl⟩
  ·obtain⟨vs,e2⟩:=m.live b hb;exact⟨_,e2,rfl⟩
 |ins c fs=>
  obtain⟨a,dx,C,fv,rfl,rfl,_,e1,e2,_⟩:=h;intro b hb;simp only[List.mem_cons,List.not_mem_nil,or_false]at hb;rcases hb with rfl|rfl
  ·exact⟨_,e1,rfl⟩
  ·exact⟨_,e2,rfl⟩
 |lst xs=>
  obtain⟨a,vs,rfl,rfl,e,r⟩:=h;intro b hb;rw[List.mem_singleton.mp hb];exact⟨_,e,rfl⟩
 |dct ks=>
  obtain⟨a,vs,rfl,rfl,e,r⟩:=h;intro b hb;rw[List.mem_singleton.mp hb];exact⟨_,e,rfl⟩
 |nst xss ds=>
  obtain⟨a,as,us,rfl,rfl,e,n,r⟩:=h;intro b hb;rcases List.mem_cons.mp hb with rfl|hb
  ·exact⟨_,e,rfl⟩
  ·obtain⟨vs,e2⟩:=n.live b hb;exact⟨_,e2,rfl⟩
theorem RepO.keep{o:O}{v:V}{f:List Addr}(p:Pers H H')(k:∀a∈f,∀u,H a=some u->H' a=some u)(h:RepO K H o v f):RepO K H' o v f:=by
 induction o with
 |anc a o ih=>exact⟨h.1,ih h.2⟩
 |tk ks=>
  obtain⟨a,rfl,rfl,e⟩:=h;exact⟨a,rfl,rfl,p _ _ e rfl⟩
 |dcT ks=>
  obtain⟨a,vs,rfl,rfl,e,r⟩:=h;exact⟨a,vs,rfl,rfl,k a (by simp) _ e,r.1,r.2.mono p⟩
 |mix ms=>
  obtain⟨a,us,bs,rfl,rfl,e,m⟩:=h;exact⟨a,us,bs,rfl,rfl,k a List.mem_cons_self _ e,m.keep p λb hb=>k b (List.mem_cons_of_mem _ hb)⟩
 |ins c fs=>
  obtain⟨a,dx,C,fv,rfl,rfl,n,e1,e2,e3,r⟩:=h;exact⟨a,dx,C,fv,rfl,rfl,n,k a (by simp) _ e1,k dx (by simp) _ e2,e3,r.mono p⟩
 |lst xs=>
  obtain⟨a,vs,rfl,rfl,e,r⟩:=h;exact⟨a,vs,rfl,rfl,k a (by simp) _ e,r.mono p⟩
 |dct ks=>
  obtain⟨a,vs,rfl,rfl,e,r⟩:=h;exact⟨a,vs,rfl,rfl,k a (by simp) _ e,r.1,r.2.mono p⟩
 |nst xss ds=>
  obtain⟨a,as,us,rfl,rfl,e,n,r⟩:=h;exact⟨a,as,us,rfl,rfl,k a List.mem_cons_self _ e,n.keep p λb hb=>k b (List.mem_cons_of_mem _ hb),r.mono p⟩
theorem Slots.live{fp:List Addr}(h:Slots K H₀ H σD σ fp):∀a∈fp,∃u,H a=some u/\u.per=false:=by
 induction h with
 |nil=>intro a ha;cases ha
 |none _ ih=>exact ih
 |val _ _ ih=>exact ih
 |vw _ _ ih=>exact ih
 |vd _ _ ih=>exact ih
 |exc _ _ ih=>exact ih
 |scr _ _ ih=>exact ih
 |pen _ _ ih=>exact ih
 |tmp _ _ ih=>exact ih
 |own r _ ih=>
  intro a ha;rcases List.mem_append.mp ha with z|z
  ·exact r.live a z
  ·exact ih a z
theorem Slots.keep{fp:List Addr}(p:Pers H H')(kn:∀{d:D}{v:V},RepN K H d v->RepN K H' d v)(k:∀a∈fp,∀u,H a=some u->H' a=some u)(h:Slots K H₀ H σD σ fp):Slots K H₀ H' σD σ fp:=by
 induction h with
 |nil=>exact .nil
 |none _ ih=>exact .none (ih k)
 |val r _ ih=>exact .val (r.mono p) (ih k)
 |vw r _ ih=>exact .vw r (ih k)
 |vd r _ ih=>exact .vd r (ih k)
 |exc r _ ih=>exact .exc r (ih k)
 |scr r _ ih=>exact .scr r (ih k)
 |pen r _ ih=>exact .pen (p _ _ r rfl) (ih k)
 |tmp r _ ih=>exact .tmp (kn r) (ih k)
 |own r _ ih=>exact .own (r.keep p λa ha=>k a (List.mem_append_left _ ha)) (ih λa ha=>k a (List.mem_append_right _ ha))
theorem Slots.keepC{fp:List Addr}(p:Pers H H')(k:∀a∈fp,∀u,H a=some u->H' a=some u)(h:Slots K H₀ H σD σ fp):Slots K H₀ H' (clr σD) σ fp:=by
 induction h with
 |nil=>exact .nil
 |none _ ih=>exact .none (ih k)
 |val r _ ih=>exact .val (r.mono p) (ih k)
 |vw r _ ih=>exact .vw r (ih k)
 |vd r _ ih=>exact .vd r (ih k)
 |exc r _ ih=>exact .exc r (ih k)
 |scr r _ ih=>exact .scr r (ih k)
 |pen r _ ih=>exact .pen (p _ _ r rfl) (ih k)
 |tmp r _ ih=>exact .none (ih k)
 |own r _ ih=>exact .own (r.keep p λa ha=>k a (List.mem_append_left _ ha)) (ih λa ha=>k a (List.mem_append_right _ ha))
theorem Slots.length{fp:List Addr}(h:Slots K H₀ H σD σ fp):σD.length=σ.length:=by
 induction h with
 |nil=>rfl
 |none _ ih=>simp[ih]
 |val _ _ ih=>simp[ih]
 |vw _ _ ih=>simp[ih]
 |vd _ _ ih=>simp[ih]
 |exc _ _ ih=>simp[ih]
 |scr _ _ ih=>simp[ih]
 |pen _ _ ih=>simp[ih]
 |tmp _ _ ih=>simp[ih]
 |own _ _ ih=>simp[ih]
theorem DOk.after(s:Same H H')(h:DOk K H₀ H σD σ):DOk K H₀ H' σD σ:=by
 obtain⟨s0,fp,sl,nd,fr⟩:=h;exact⟨s0.trans s,fp,sl.keep s.pers (λh=>h.same s) λa _ u e=>s a u e,nd,fr⟩
theorem DOk.len(h:DOk K H₀ H σD σ):σD.length=σ.length:=let ⟨_,_,sl,_⟩:=h;sl.length
theorem Slots.get{fp:List Addr}(h:Slots K H₀ H σD σ fp):∀{i:Nat}{w:W},σD[i]?=some (some w)->∃v,σ[i]?=some (some v)/\match w with
  |.val d=>Rep K H d v
  |.vw xs=>RepL K H₀ xs v
  |.vd xs=>RepD K H₀ xs v
  |.exc xs=>RepX K H₀ xs v
  |.scr ns=>∃a,v=.ref a/\SqL K H₀ a (ns.map V.int)
  |.pen=>∃a,v=.ref a/\H a=some (j4 a)
  |.tmp d=>RepN K H d v
  |.own o=>∃f,RepO K H o v f/\∀a∈f,a∈fp:=by
 induction h with
 |nil=>intro i w e;simp at e
 |none _ ih=>
  intro i w e
  cases i with
  |zero=>simp at e
  |succ i=>exact ih (by simpa using e)
 |val r _ ih=>
  intro i w e
  cases i with
  |zero=>simp at e;subst e;exact⟨_,rfl,r⟩
  |succ i=>exact ih (by simpa using e)
 |vw r _ ih=>
  intro i w e
  cases i with
  |zero=>simp at e;subst e;exact⟨_,rfl,r⟩
  |succ i=>exact ih (by simpa using e)
 |vd r _ ih=>
  intro i w e
  cases i with
  |zero=>simp at e;subst e;exact⟨_,rfl,r⟩
  |succ i=>exact ih (by simpa using e)
 |exc r _ ih=>
  intro i w e
  cases i with
  |zero=>simp at e;subst e;exact⟨_,rfl,r⟩
  |succ i=>exact ih (by simpa using e)
 |scr r _ ih=>
  intro i w e
  cases i with
  |zero=>simp at e;subst e;exact⟨_,rfl,_,rfl,r⟩
  |succ i=>exact ih (by simpa using e)
 |pen r _ ih=>
  intro i w e
  cases i with
  |zero=>simp at e;subst e;exact⟨_,rfl,_,rfl,r⟩
  |succ i=>exact ih (by simpa using e)
 |tmp r _ ih=>
  intro i w e
  cases i with
  |zero=>simp at e;subst e;exact⟨_,rfl,r⟩
  |succ i=>exact ih (by simpa using e)
 |own r _ ih=>
  intro i w e
  cases i with
  |zero=>simp at e;subst e;exact⟨_,rfl,_,r,λa ha=>List.mem_append_left _ ha⟩
  |succ i=>
   obtain⟨v,e1,e2⟩:=ih (by simpa using e);refine⟨v,e1,?_⟩
   cases w with
   |val d=>exact e2
   |vw xs=>exact e2
   |vd xs=>exact e2
   |exc xs=>exact e2
   |scr ns=>exact e2
   |pen=>exact e2
   |tmp d=>exact e2
   |own o=>obtain⟨f,r,m⟩:=e2;exact⟨f,r,λa ha=>List.mem_append_right _ (m a ha)⟩
theorem DOk.val(h:DOk K H₀ H σD σ){i:Nat}{d:D}(e:σD[i]?=some (some (.val d))):∃v,σ[i]?=some (some v)/\Rep K H d v:=let ⟨_,_,sl,_⟩:=h;sl.get e
theorem DOk.vw(h:DOk K H₀ H σD σ){i:Nat}{xs:List D}(e:σD[i]?=some (some (.vw xs))):∃v,σ[i]?=some (some v)/\RepL K H xs v:=by
 obtain⟨s,_,sl,_⟩:=h;obtain⟨v,e1,e2⟩:=sl.get e;exact⟨v,e1,RepL.same s e2⟩
theorem DOk.vd(h:DOk K H₀ H σD σ){i:Nat}{xs:List (Key×D)}(e:σD[i]?=some (some (.vd xs))):∃v,σ[i]?=some (some v)/\RepD K H xs v:=by
 obtain⟨s,_,sl,_⟩:=h;obtain⟨v,e1,e2⟩:=sl.get e;exact⟨v,e1,RepD.same s e2⟩
theorem DOk.exc(h:DOk K H₀ H σD σ){i:Nat}{xs:Str×List (Str×Int)}(e:σD[i]?=some (some (.exc xs))):∃v,σ[i]?=some (some v)/\RepX K H xs v:=by
 obtain⟨s,_,sl,_⟩:=h;obtain⟨v,e1,e2⟩:=sl.get e;exact⟨v,e1,RepX.same s e2⟩
theorem DOk.scr(h:DOk K H₀ H σD σ){i:Nat}{ns:List Int}(e:σD[i]?=some (some (.scr ns))):∃a,σ[i]?=some (some (.ref a))/\SqL K H a (ns.map V.int):=by
 obtain⟨s,_,sl,_⟩:=h;obtain⟨v,e1,a,rfl,e2⟩:=sl.get e;exact⟨a,e1,s.seq e2⟩
theorem DOk.pen(h:DOk K H₀ H σD σ){i:Nat}(e:σD[i]?=some (some .pen)):∃a,σ[i]?=some (some (.ref a))/\H a=some (j4 a):=by
 obtain⟨s,_,sl,_⟩:=h;obtain⟨v,e1,a,rfl,e2⟩:=sl.get e;exact⟨a,e1,e2⟩
theorem DOk.ownL(h:DOk K H₀ H σD σ){i:Nat}{xs:List D}(e:σD[i]?=some (some (.own (.lst xs)))):∃a vs,σ[i]?=some (some (.ref a))/\H a=some (.lst vs)/\Reps K H xs vs/\H₀ a=none:=by
 obtain⟨s,fp,sl,nd,fr⟩:=h;obtain⟨v,e1,f,⟨a,vs,rfl,rfl,e2,r⟩,m⟩:=sl.get e;exact⟨a,vs,e1,e2,r,fr a (m a (by simp))⟩
theorem DOk.ownD(h:DOk K H₀ H σD σ){i:Nat}{xs:List (Key×D)}(e:σD[i]?=some (some (.own (.dct xs)))):∃a vs,σ[i]?=some (some (.ref a))/\H a=some (.dK vs)/\RepKV K H xs vs/\H₀ a=none:=by
 obtain⟨s,fp,sl,nd,fr⟩:=h;obtain⟨v,e1,f,⟨a,vs,rfl,rfl,e2,r⟩,m⟩:=sl.get e;exact⟨a,vs,e1,e2,r,fr a (m a (by simp))⟩
theorem Slots.set{fp f:List Addr}(h:Slots K H₀ H σD σ fp){w:Option W}{v:Option V}(hw:∀{ws:DSt}{vs:St}{g:List Addr},Slots K H₀ H ws vs g->Slots K H₀ H (w::ws) (v::vs) (f++g)):
  ∀(i:Nat),i<σD.length->∃g g',Slots K H₀ H (σD.set i w) (σ.set i v) (g++(f++g'))/\(g++g').Sublist fp:=by
 induction h with
 |nil=>intro i hi;exact absurd hi (Nat.not_lt_zero _)
 |none t ih=>
  intro i hi
  cases i with
  |zero=>exact⟨[],_,hw t,List.Sublist.refl _⟩
  |succ i=>obtain⟨g,g',e,s⟩:=ih i (Nat.lt_of_succ_lt_succ hi);exact⟨g,g',.none e,s⟩
 |val r t ih=>
  intro i hi
  cases i with
  |zero=>exact⟨[],_,hw t,List.Sublist.refl _⟩
  |succ i=>obtain⟨g,g',e,s⟩:=ih i (Nat.lt_of_succ_lt_succ hi);exact⟨g,g',.val r e,s⟩
 |vw r t ih=>
  intro i hi
  cases i with
  |zero=>exact⟨[],_,hw t,List.Sublist.refl _⟩
  |succ i=>obtain⟨g,g',e,s⟩:=ih i (Nat.lt_of_succ_lt_succ hi);exact⟨g,g',.vw r e,s⟩
 |vd r t ih=>
  intro i hi
  cases i with
  |zero=>exact⟨[],_,hw t,List.Sublist.refl _⟩
  |succ i=>obtain⟨g,g',e,s⟩:=ih i (Nat.lt_of_succ_lt_succ hi);exact⟨g,g',.vd r e,s⟩
 |exc r t ih=>
  intro i hi
  cases i with
  |zero=>exact⟨[],_,hw t,List.Sublist.refl _⟩
  |succ i=>obtain⟨g,g',e,s⟩:=ih i (Nat.lt_of_succ_lt_succ hi);exact⟨g,g',.exc r e,s⟩
 |scr r t ih=>
  intro i hi
  cases i with
  |zero=>exact⟨[],_,hw t,List.Sublist.refl _⟩
  |succ i=>obtain⟨g,g',e,s⟩:=ih i (Nat.lt_of_succ_lt_succ hi);exact⟨g,g',.scr r e,s⟩
 |pen r t ih=>
  intro i hi
  cases i with
  |zero=>exact⟨[],_,hw t,List.Sublist.refl _⟩
  |succ i=>obtain⟨g,g',e,s⟩:=ih i (Nat.lt_of_succ_lt_succ hi);exact⟨g,g',.pen r e,s⟩
 |tmp r t ih=>
  intro i hi
  cases i with
  |zero=>exact⟨[],_,hw t,List.Sublist.refl _⟩
  |succ i=>obtain⟨g,g',e,s⟩:=ih i (Nat.lt_of_succ_lt_succ hi);exact⟨g,g',.tmp r e,s⟩
 |@own o v' f' ws vs fp' r t ih=>
  intro i hi
  cases i with
  |zero=>exact⟨[],_,hw t,List.sublist_append_right _ _⟩
  |succ i=>
   obtain⟨g,g',e,s⟩:=ih i (Nat.lt_of_succ_lt_succ hi);refine⟨f'++g,g',?_,?_⟩
   ·rw[List.append_assoc];exact .own r e
   ·rw[List.append_assoc];exact(List.Sublist.refl _).append s
theorem DOk.put(h:DOk K H₀ H σD σ){w:Option W}{v:Option V}(hw:∀{ws:DSt}{vs:St}{g:List Addr},Slots K H₀ H ws vs g->Slots K H₀ H (w::ws) (v::vs) g)(i:Nat):DOk K H₀ H (σD.set i w) (σ.set i v):=by
 obtain⟨s,fp,sl,nd,fr⟩:=h
 by_cases hi:i<σD.length
 ·obtain⟨g,g',e,sb⟩:=sl.set (f:=[]) hw i hi;rw[List.nil_append]at e;exact⟨s,_,e,sb.nodup nd,λa ha=>fr a (sb.subset ha)⟩
 ·rw[List.set_eq_of_length_le (by omega),List.set_eq_of_length_le (by rw[<-sl.length];omega)];exact⟨s,fp,sl,nd,fr⟩
theorem DOk.setV(h:DOk K H₀ H σD σ){d:D}{v:V}(r:Rep K H d v)(i:Nat):DOk K H₀ H (σD.set i (some (.val d))) (σ.set i (some v)):=h.put (.val r) i
theorem DOk.setN(h:DOk K H₀ H σD σ)(v:Option V)(i:Nat):DOk K H₀ H (σD.set i none) (σ.set i v):=h.put (.none) i
theorem DOk.setO{H1:Hp}(h:DOk K H₀ H1 σD σ)(s1:Same H1 H){a:Addr}{vs:List V}{xs:List D}(n:H1 a=none)(e:H a=some (.lst vs))(r:Reps K H xs vs)(i:Nat):DOk K H₀ H (σD.set i (some (.own (.lst xs)))) (σ.set i (some (.ref a))):=by
 obtain⟨s,fp,sl,nd,fr⟩:=id h;have lv:∀b∈fp,b≠a:=λb hb z=>by
  obtain⟨u,e1,_⟩:=sl.live b hb;rw[z,n]at e1;cases e1
 obtain⟨s',fp',sl',_⟩:=id (h.after s1);have sl2:Slots K H₀ H σD σ fp:=sl.keep s1.pers (λh=>h.same s1) λb _ u e=>s1 b u e
 by_cases hi:i<σD.length
 ·obtain⟨g,g',e',sb⟩:=sl2.set (f:=[a]) (w:=some (.own (.lst xs))) (v:=some (.ref a)) (λt=>.own ⟨a,vs,rfl,rfl,e,r⟩ t) i hi;refine⟨s',_,e',?_,λb hb=>?_⟩
  ·have nd2:=sb.nodup nd;rw[List.nodup_append]at nd2 ⊢;refine⟨nd2.1,?_,λx hx y hy=>?_⟩
   ·rw[List.singleton_append,List.nodup_cons];exact⟨λz=>lv a (sb.subset (List.mem_append_right _ z)) rfl,nd2.2.1⟩
   ·rcases List.mem_append.mp hy with z|z
    ·rw[List.mem_singleton.mp z];exact lv x (sb.subset (List.mem_append_left _ hx))
    ·exact nd2.2.2 x hx y z
  ·rcases List.mem_append.mp hb with z|z
   ·exact fr b (sb.subset (List.mem_append_left _ z))
   ·rcases List.mem_append.mp z with z|z
    ·rw[List.mem_singleton.mp z]
     cases q:H₀ a with
     |none=>rfl
     |some u=>rw[s a u q]at n;cases n
    ·exact fr b (sb.subset (List.mem_append_right _ z))
 ·rw[List.set_eq_of_length_le (by omega),List.set_eq_of_length_le (by rw[<-sl2.length];omega)];exact⟨s',fp,sl2,nd,fr⟩
theorem Slots.write{fp:List Addr}(h:Slots K H₀ H σD σ fp)(nd:fp.Nodup){i:Nat}{xs ys:List D}{a:Addr}{vs:List V}(e:σD[i]?=some (some (.own (.lst xs))))(ev:σ[i]?=some (some (.ref a)))(ea:∃zs,H a=some (.lst zs))(r:Reps K H ys vs):
  Slots K H₀ (upd H a (.lst vs)) (clr (σD.set i (some (.own (.lst ys))))) σ fp:=by
 have ps:Pers H (upd H a (.lst vs)):=λb o hb hp=>by
  obtain⟨zs,ea⟩:=ea;rw[zj (λz=>by rw[z,ea]at hb;cases hb;cases hp)];exact hb
 induction h generalizing i with
 |nil=>simp at e
 |none t ih=>
  cases i with
  |zero=>simp at e
  |succ i=>exact .none (ih nd (by simpa using e) (by simpa using ev))
 |val q t ih=>
  cases i with
  |zero=>simp at e
  |succ i=>exact .val (q.mono ps) (ih nd (by simpa using e) (by simpa using ev))
 |vw q t ih=>
  cases i with
  |zero=>simp at e
  |succ i=>exact .vw q (ih nd (by simpa using e) (by simpa using ev))
 |vd q t ih=>
  cases i with
  |zero=>simp at e
  |succ i=>exact .vd q (ih nd (by simpa using e) (by simpa using ev))
 |exc q t ih=>
  cases i with
  |zero=>simp at e
  |succ i=>exact .exc q (ih nd (by simpa using e) (by simpa using ev))
 |scr q t ih=>
  cases i with
  |zero=>simp at e
  |succ i=>exact .scr q (ih nd (by simpa using e) (by simpa using ev))
 |pen q t ih=>
  cases i with
  |zero=>simp at e
  |succ i=>exact .pen (ps _ _ q rfl) (ih nd (by simpa using e) (by simpa using ev))
 |tmp q t ih=>
  cases i with
  |zero=>simp at e
  |succ i=>exact .none (ih nd (by simpa using e) (by simpa using ev))
 |@own o v f ws wvs fp' q t ih=>
  rw[List.nodup_append]at nd
  cases i with
  |zero=>
   simp at e ev;subst e ev;obtain⟨b,zs,eb,rfl,hb,rb⟩:=q
   cases eb;refine .own ⟨a,vs,rfl,rfl,zl,r.mono ps⟩ (t.keepC ps λc hc u hu=>?_);rw[zj (λz=>nd.2.2 a (by simp) c hc z.symm)];exact hu
  |succ i=>
   have e':ws[i]?=some (some (.own (.lst xs))):=by simpa using e
   have ev':wvs[i]?=some (some (.ref a)):=by simpa using ev
   refine .own (q.keep ps λc hc u hu=>?_) (ih nd.2.1 e' ev');obtain⟨v',e1,f',⟨b,zs,rfl,rfl,hb,rb⟩,m⟩:=t.get e';rw[ev']at e1
   cases e1;rw[zj (λz=>nd.2.2 c hc a (m a (by simp)) z)];exact hu
theorem y9{a:Addr}{o o':HO}(e:H a=some o)(p:o.per=false):Pers H (upd H a o'):=λb u hb hp=>by
 rw[zj (λz=>by rw[z,e]at hb;cases hb;rw[p]at hp;cases hp)];exact hb
theorem DOk.write(h:DOk K H₀ H σD σ){i:Nat}{xs ys:List D}{a:Addr}{vs zs:List V}(e:σD[i]?=some (some (.own (.lst xs))))(ev:σ[i]?=some (some (.ref a)))(ea:H a=some (.lst zs))(r:Reps K H ys vs):DOk K H₀ (upd H a (.lst vs)) (clr (σD.set i (some (.own (.lst ys))))) σ:=by
 obtain⟨a',_,e1,_,_,n⟩:=h.ownL e;rw[ev]at e1
 cases e1;obtain⟨s,fp,sl,nd,fr⟩:=h;refine⟨λb o hb=>?_,fp,sl.write nd e ev ⟨_,ea⟩ r,nd,fr⟩;rw[zj (λz=>by rw[z,n]at hb;cases hb)];exact s b o hb
end
section
variable {X:Cx}{pins:List (Addr×Obj)}{σ:St}{H:Hp}{s:Shared}{a:Addr}
theorem Inv.frz(I:Inv X pins σ H s){vs:List V}(h:H a=some (.lst vs)):∃o,Inv X pins σ (upd H a (.frz o (.lst vs))) s:=by
 obtain⟨z,its,n,r,e⟩:=I.hok a _ h;exact⟨_,I.write (h':=s.heap) (t':=s.toks) (x:=a) (e:=a) (by rw[h];exact trivial) (.inl rfl) (λb u _ q=>q) ⟨_,e⟩ ⟨e,z,its,n,r,e⟩⟩
theorem zhi{P:Program}{w:World}{h:Heap}{x y z:Int}{tx ty tz:Tok}{n:Nat}(e:h.get? a=some { cls:=.type "list",data:=.seq #[.int x tx,.int y ty,.int z tz] n }):ObjOk P w H h a (j4 a) :=
 ⟨⟨x,y,z,tx,ty,tz,n,e⟩,⟨_,e⟩,λh1 h2 ⟨x,y,z,tx,ty,tz,n,e⟩ k=>⟨x,y,z,tx,ty,tz,n,k _ e⟩⟩
theorem Inv.toPen(I:Inv X pins σ H s){x y z:Int}(h:H a=some (.lst [.int x,.int y,.int z])):Inv X pins σ (upd H a (j4 a)) s:=by
 obtain⟨zz,its,n,r,e⟩:=I.hok a _ h
 cases r with
 |cons r1 r=>
  cases r with
  |cons r2 r=>
   cases r with
   |cons r3 r=>
    cases r;obtain⟨t1,rfl⟩:=r1;obtain⟨t2,rfl⟩:=r2;obtain⟨t3,rfl⟩:=r3;exact I.write (h':=s.heap) (t':=s.toks) (x:=a) (e:=a) (by rw[h];exact trivial) (.inl rfl) (λb u _ q=>q) ⟨_,e⟩ (zhi e)
end
abbrev DTE:=DSt->(D->Prop)->Prop
abbrev DTF:=DSt->(List D->Prop)->Prop
abbrev DTT:=DSt->(Bool->Prop)->Prop
abbrev DTP:=DSt->(List W->Prop)->Prop
def DEnd(X:Cx)(pins:List (Addr×Obj))(σ:St)(H:Hp)(Q:D->Prop)(u:Value)(s':Shared):Prop:=∃v H' d,Inv X pins σ H' s'/\RelV v u/\Same H H'/\Rep X.K H' d v/\Q d
def zoz(X:Cx)(pins:List (Addr×Obj))(σ:St)(H:Hp)(Q:D->Prop)(u:Value)(s':Shared):Prop:=∃v H' d,Inv X pins σ H' s'/\RelV v u/\Same H H'/\RepT X.K H' d v/\Q d
def zhj(X:Cx)(pins:List (Addr×Obj))(σ:St)(H:Hp)(Q:List D->Prop)(u:Value)(s':Shared):Prop:=∃a H' vs xs,u=.ref a/\Inv X pins σ H' s'/\Same H H'/\H a=none/\H' a=some (.lst vs)/\Reps X.K H' xs vs/\Q xs
structure DE(X:Cx)(e:Expr)(t:DTE):Prop where
 run:∀(pins:List (Addr×Obj)) (s:Shared) (σ:St) (H H₀:Hp) (σD:DSt) (Q:D->Prop),Inv X pins σ H s->DOk X.K H₀ H σD σ->t σD Q->wpAny (model X.prog X.w) X.A (eval e X.env) (DEnd X pins σ H Q) X.xe s
structure DV(X:Cx)(e:Expr)(t:DTE):Prop where
 run:∀(pins:List (Addr×Obj)) (s:Shared) (σ:St) (H H₀:Hp) (σD:DSt) (Q:D->Prop),Inv X pins σ H s->DOk X.K H₀ H σD σ->t σD Q->wpAny (model X.prog X.w) X.A (eval e X.env) (zoz X pins σ H Q) X.xe s
structure DF(X:Cx)(e:Expr)(t:DTF):Prop where
 run:∀(pins:List (Addr×Obj)) (s:Shared) (σ:St) (H H₀:Hp) (σD:DSt) (Q:List D->Prop),Inv X pins σ H s->DOk X.K H₀ H σD σ->t σD Q->wpAny (model X.prog X.w) X.A (eval e X.env) (zhj X pins σ H Q) X.xe s
def zo0(X:Cx)(pins:List (Addr×Obj))(σ:St)(H:Hp)(Q:Bool->Prop)(b:Bool)(s':Shared):Prop:=∃H',Inv X pins σ H' s'/\Same H H'/\Q b
structure DT(X:Cx)(e:Expr)(t:DTT):Prop where
 run:∀(pins:List (Addr×Obj)) (s:Shared) (σ:St) (H H₀:Hp) (σD:DSt) (Q:Bool->Prop),Inv X pins σ H s->DOk X.K H₀ H σD σ->t σD Q->wpAny (model X.prog X.w) X.A (isTrue e X.env (eval e X.env)) (zo0 X pins σ H Q) X.xe s
structure DWt(X:Cx)(e:Expr)(t:DTT):Prop where
 run:∀(whole:Sem Value) (pins:List (Addr×Obj)) (s:Shared) (σ:St) (H H₀:Hp) (σD:DSt) (Q:Bool->Prop),Inv X pins σ H s->DOk X.K H₀ H σD σ->t σD Q->wpAny (model X.prog X.w) X.A (isTrue e X.env whole) (zo0 X pins σ H Q) X.xe s
structure DA(X:Cx)(es:List Expr)(t:DTF):Prop where
 run:∀(pos:Pos) (pins:List (Addr×Obj)) (s:Shared) (σ:St) (H H₀:Hp) (σD:DSt) (Q:List D->Prop),Inv X pins σ H s->DOk X.K H₀ H σD σ->t σD Q ->
  wpAny (model X.prog X.w) X.A (spliced (backTo pos (starEach es X.env))) (λus s'=>∃vs H' ds,Inv X pins σ H' s'/\Vals vs us/\Same H H'/\Reps X.K H' ds vs/\Q ds) X.xe s
inductive RepTs(K:PySem.W.Frag)(H:Hp):List D->List V->Prop
 |nil:RepTs K H [] []
 |cons {d:D}{v:V}{ds:List D}{vs:List V} (r:RepT K H d v) (t:RepTs K H ds vs):RepTs K H (d::ds) (v::vs)
structure DAv(X:Cx)(es:List Expr)(t:DTF):Prop where
 run:∀(pos:Pos) (pins:List (Addr×Obj)) (s:Shared) (σ:St) (H H₀:Hp) (σD:DSt) (Q:List D->Prop),Inv X pins σ H s->DOk X.K H₀ H σD σ->t σD Q ->
  wpAny (model X.prog X.w) X.A (spliced (backTo pos (starEach es X.env))) (λus s'=>∃vs H' ds,Inv X pins σ H' s'/\Vals vs us/\Same H H'/\RepTs X.K H' ds vs/\Q ds) X.xe s
section
variable (K:PySem.W.Frag)
def zuo(H:Hp):W->V->Prop
 |.val d,v=>Rep K H d v
 |.vw xs,v=>RepL K H xs v
 |.vd xs,v=>RepD K H xs v
 |.exc xs,v=>RepX K H xs v
 |.scr ns,v=>∃a,v=.ref a/\SqL K H a (ns.map V.int)
 |.pen,v=>∃a,v=.ref a/\H a=some (j4 a)
 |.tmp _,_=>False
 |.own _,_=>False
inductive RepWs(H:Hp):List W->List V->Prop
 |nil:RepWs H [] []
 |cons {w:W}{v:V}{ws:List W}{vs:List V} (r:zuo K H w v) (t:RepWs H ws vs):RepWs H (w::ws) (v::vs)
end
theorem RepWs.length{K:PySem.W.Frag}{H:Hp}{ws:List W}{vs:List V}(h:RepWs K H ws vs):ws.length=vs.length:=by
 induction h with
 |nil=>rfl
 |cons _ _ ih=>simp[ih]
structure DPs(X:Cx)(es:List Expr)(t:DTP):Prop where
 run:∀(pos:Pos) (pins:List (Addr×Obj)) (s:Shared) (σ:St) (H H₀:Hp) (σD:DSt) (Q:List W->Prop),Inv X pins σ H s->DOk X.K H₀ H σD σ->t σD Q ->
  wpAny (model X.prog X.w) X.A (spliced (backTo pos (starEach es X.env))) (λus s'=>∃vs H' ws,Inv X pins σ H' s'/\Vals vs us/\Same H H'/\RepWs X.K H' ws vs/\Q ws) X.xe s
section
variable (K:PySem.W.Frag)
def cnE(t:DTE):TE:=λσ H Q=>∃H₀ σD QD,DOk K H₀ H σD σ/\t σD QD/\∀v H' d,Same H H'->Rep K H' d v->QD d->Q v H'
def cnV(t:DTE):TE:=λσ H Q=>∃H₀ σD QD,DOk K H₀ H σD σ/\t σD QD/\∀v H' d,Same H H'->RepT K H' d v->QD d->Q v H'
def cnF(t:DTF):TE:=λσ H Q=>∃H₀ σD QD,DOk K H₀ H σD σ/\t σD QD/\∀a H' vs xs,Same H H'->H a=none->H' a=some (.lst vs)->Reps K H' xs vs->QD xs->Q (.ref a) H'
def cnT(t:DTT):TT:=λσ H Q=>∃H₀ σD QD,DOk K H₀ H σD σ/\t σD QD/\∀b H',Same H H'->QD b->Q b H'
def cnA(t:DTF):TA:=λσ H Q=>∃H₀ σD QD,DOk K H₀ H σD σ/\t σD QD/\∀vs H' ds,Same H H'->Reps K H' ds vs->QD ds->Q vs H'
def zup(t:DTF):TA:=λσ H Q=>∃H₀ σD QD,DOk K H₀ H σD σ/\t σD QD/\∀vs H' ds,Same H H'->RepTs K H' ds vs->QD ds->Q vs H'
def cnP(t:DTP):TA:=λσ H Q=>∃H₀ σD QD,DOk K H₀ H σD σ/\t σD QD/\∀vs H' ws,Same H H'->RepWs K H' ws vs->QD ws->Q vs H'
end
section
variable {X:Cx}{e:Expr}{es:List Expr}
theorem DE.pe{t:DTE}(h:DE X e t):PE X e (cnE X.K t):=λpins s σ H Q I zq63=>by obtain⟨H₀,σD,QD,ok,q,k⟩:=zq63;exact thn (h.run pins s σ H H₀ σD QD I ok q) λu s' zq50=>by obtain⟨v,H',d,I',r,sm,rp,qd⟩:=zq50;exact⟨v,H',I',r,k v H' d sm rp qd⟩
theorem DV.pe{t:DTE}(h:DV X e t):PE X e (cnV X.K t):=λpins s σ H Q I zq63=>by obtain⟨H₀,σD,QD,ok,q,k⟩:=zq63;exact thn (h.run pins s σ H H₀ σD QD I ok q) λu s' zq50=>by obtain⟨v,H',d,I',r,sm,rp,qd⟩:=zq50;exact⟨v,H',I',r,k v H' d sm rp qd⟩
theorem DF.pe{t:DTF}(h:DF X e t):PE X e (cnF X.K t):=λpins s σ H Q I zq63=>by obtain⟨H₀,σD,QD,ok,q,k⟩:=zq63;exact thn (h.run pins s σ H H₀ σD QD I ok q) λu s' zq50=>by obtain⟨a,H',vs,xs,eu,I',sm,n,e,rp,qd⟩:=zq50;exact⟨.ref a,H',I',eu,k a H' vs xs sm n e rp qd⟩
theorem DT.pt{t:DTT}(h:DT X e t):PT X e (cnT X.K t):=λpins s σ H Q I zq63=>by obtain⟨H₀,σD,QD,ok,q,k⟩:=zq63;exact thn (h.run pins s σ H H₀ σD QD I ok q) λu s' zq50=>by obtain⟨H',I',sm,qd⟩:=zq50;exact⟨H',I',k u H' sm qd⟩
theorem DA.pa{t:DTF}(h:DA X es t):PA X es (cnA X.K t):=λpos pins s σ H Q I zq65=>by obtain⟨H₀,σD,QD,ok,q,k⟩:=zq65;exact thn (h.run pos pins s σ H H₀ σD QD I ok q) λus s' zq60=>by obtain⟨vs,H',ds,I',r,sm,rp,qd⟩:=zq60;exact⟨vs,H',I',r,k vs H' ds sm rp qd⟩
theorem DAv.pa{t:DTF}(h:DAv X es t):PA X es (zup X.K t):=λpos pins s σ H Q I zq68=>by obtain⟨H₀,σD,QD,ok,q,k⟩:=zq68;exact thn (h.run pos pins s σ H H₀ σD QD I ok q) λus s' zq63=>by obtain⟨vs,H',ds,I',r,sm,rp,qd⟩:=zq63;exact⟨vs,H',I',r,k vs H' ds sm rp qd⟩
theorem DPs.pa{t:DTP}(h:DPs X es t):PA X es (cnP X.K t):=λpos pins s σ H Q I zq67=>by obtain⟨H₀,σD,QD,ok,q,k⟩:=zq67;exact thn (h.run pos pins s σ H H₀ σD QD I ok q) λus s' zq62=>by obtain⟨vs,H',ws,I',r,sm,rp,qd⟩:=zq62;exact⟨vs,H',I',r,k vs H' ws sm rp qd⟩
theorem DE.of{t:DTE}{t':TE}(h:PE X e t')(k:∀σ H H₀ σD QD,DOk X.K H₀ H σD σ->t σD QD->t' σ H (λv H'=>∃d,Same H H'/\Rep X.K H' d v/\QD d)):DE X e t :=
 ⟨λpins s σ H H₀ σD Q I ok q=>thn (h pins s σ H _ I (k σ H H₀ σD Q ok q)) λu s' zq80=>by obtain⟨v,H',I',r,d,sm,rp,qd⟩:=zq80;exact⟨v,H',d,I',r,sm,rp,qd⟩⟩
theorem DV.of{t:DTE}{t':TE}(h:PE X e t')(k:∀σ H H₀ σD QD,DOk X.K H₀ H σD σ->t σD QD->t' σ H (λv H'=>∃d,Same H H'/\RepT X.K H' d v/\QD d)):DV X e t :=
 ⟨λpins s σ H H₀ σD Q I ok q=>thn (h pins s σ H _ I (k σ H H₀ σD Q ok q)) λu s' zq80=>by obtain⟨v,H',I',r,d,sm,rp,qd⟩:=zq80;exact⟨v,H',d,I',r,sm,rp,qd⟩⟩
theorem DF.of{t:DTF}{t':TE}(h:PE X e t')(k:∀σ H H₀ σD QD,DOk X.K H₀ H σD σ->t σD QD->t' σ H (λv H'=>∃a vs xs,v=.ref a/\Same H H'/\H a=none/\H' a=some (.lst vs)/\Reps X.K H' xs vs/\QD xs)):DF X e t :=
 ⟨λpins s σ H H₀ σD Q I ok q=>thn (h pins s σ H _ I (k σ H H₀ σD Q ok q)) λu s' zq80=>by obtain⟨v,H',I',r,a,vs,xs,ev,sm,n,e,rp,qd⟩:=zq80;exact⟨a,H',vs,xs,by subst ev;exact r,I',sm,n,e,rp,qd⟩⟩
theorem DT.of{t:DTT}{t':TT}(h:PT X e t')(k:∀σ H H₀ σD QD,DOk X.K H₀ H σD σ->t σD QD->t' σ H (λb H'=>Same H H'/\QD b)):DT X e t :=
 ⟨λpins s σ H H₀ σD Q I ok q=>thn (h pins s σ H _ I (k σ H H₀ σD Q ok q)) λu s' zq80=>by obtain⟨H',I',sm,qd⟩:=zq80;exact⟨H',I',sm,qd⟩⟩
theorem DE.dv{t:DTE}(h:DE X e t):DV X e t:=⟨λpins s σ H H₀ σD Q I ok q=>thn (h.run pins s σ H H₀ σD Q I ok q) λu s' zq28=>by obtain⟨v,H',d,I',r,sm,rp,qd⟩:=zq28;exact⟨v,H',d,I',r,sm,rp.top,qd⟩⟩
theorem zga{pins:List (Addr×Obj)}{σ:St}{H H':Hp}{s:Shared}{a:Addr}{vs:List V}{xs:List D}(I:Inv X pins σ H' s)(sm:Same H H')(n:H a=none)(e:H' a=some (.lst vs))(r:Reps X.K H' xs vs):
  ∃H'',Inv X pins σ H'' s/\Same H H''/\Rep X.K H'' (.list xs) (.ref a):=by
 obtain⟨o,J⟩:=I.frz e;refine⟨_,J,λb u hb=>?_,.lst zl (r.mono (y9 e rfl))⟩;rw[zj (z0 hb n)];exact sm b u hb
def dFz(t:DTF):DTE:=λσ Q=>t σ λxs=>Q (.list xs)
theorem DF.de{t:DTF}(h:DF X e t):DE X e (dFz t):=⟨λpins s σ H H₀ σD Q I ok q=>thn (h.run pins s σ H H₀ σD _ I ok q) λu s' zq34=>by
 obtain⟨a,H',vs,xs,eu,I',sm,n,e,rp,qd⟩:=zq34;obtain⟨H'',J,sm',r'⟩:=zga I' sm n e rp;exact⟨.ref a,H'',.list xs,J,eu,sm',r',qd⟩⟩
def zm4(i:Nat):DTE:=λσ Q=>match σ[i]? with
 |some (some (.val d))=>Q d
 |_=>False
def zm5(i:Nat):DTE:=λσ Q=>match σ[i]? with
 |some (some (.val d))=>Q d
 |some (some (.own (.lst xs)))=>Q (.list xs)
 |some (some (.vw xs))=>Q (.list xs)
 |_=>False
def dC(d:D):DTE:=λ_ Q=>Q d
theorem zn(i:Nat){x:Str}{pos:Pos}(hN:X.N[i]?=some x:=by rfl)(hv:Vis X.env.scope x:=by first|exact Or.inl rfl|exact Or.inr (Or.inl rfl)|exact Or.inr (Or.inr rfl))(hd:(x ==("__debug__" : Str))=false:=by decide)
  (hcd:(x ==("__classdict__" : Str))=false:=by decide):DE X (.Name x pos) (zm4 i):=by
 refine DE.of (yp (i:=i) hN hv hd hcd) λσ H H₀ σD QD ok q=>?_;unfold zm4 at q
 split at q
 ·next d e=>
  obtain⟨v,e1,r⟩:=ok.val e;exact⟨v,e1,d,Same.refl _,r,q⟩
 ·exact q.elim
theorem zc(i:Nat){x:Str}{pos:Pos}(hN:X.N[i]?=some x:=by rfl)(hv:Vis X.env.scope x:=by first|exact Or.inl rfl|exact Or.inr (Or.inl rfl)|exact Or.inr (Or.inr rfl))(hd:(x ==("__debug__" : Str))=false:=by decide)
  (hcd:(x ==("__classdict__" : Str))=false:=by decide):DV X (.Name x pos) (zm5 i):=by
 refine DV.of (yp (i:=i) hN hv hd hcd) λσ H H₀ σD QD ok q=>?_;unfold zm5 at q
 split at q
 ·next d e=>
  obtain⟨v,e1,r⟩:=ok.val e;exact⟨v,e1,d,Same.refl _,r.top,q⟩
 ·next xs e=>
  obtain⟨a,vs,e1,e2,r,_⟩:=ok.ownL e;exact⟨.ref a,e1,.list xs,Same.refl _,.inr ⟨xs,rfl,a,vs,rfl,.inl e2,r⟩,q⟩
 ·next xs e=>
  obtain⟨v,e1,r⟩:=ok.vw e;exact⟨v,e1,.list xs,Same.refl _,.inr ⟨xs,rfl,r⟩,q⟩
 ·exact q.elim
theorem ze{i j pos}:DE X (.Constant (.int i) j pos) (dC (.int i)):=DE.of xg λσ H H₀ σD QD ok q=>⟨.int i,Same.refl _,.int,q⟩
theorem y6{b j pos}:DE X (.Constant (.bool b) j pos) (dC (.bool b)):=DE.of zsg λσ H H₀ σD QD ok q=>⟨.bool b,Same.refl _,.bl,q⟩
theorem zgb{j pos}:DE X (.Constant .none j pos) (dC .none):=DE.of zpl λσ H H₀ σD QD ok q=>⟨.none,Same.refl _,.non,q⟩
theorem v4{x j pos}:DE X (.Constant (.str x) j pos) (dC (.str x)):=DE.of zpm λσ H H₀ σD QD ok q=>⟨.str x,Same.refl _,.str,q⟩
theorem yh{x:Str}{d:D}{v:V}{u:Value}{pos:Pos}(hg:Gl X x)(hm:X.mg x=some u)(r:RelV v u)(rp:∀H,Rep X.K H d v)(hd:(x ==("__debug__" : Str))=false:=by decide):DE X (.Name x pos) (dC d) :=
 DE.of (zmk hg hm r hd) λσ H H₀ σD QD ok q=>⟨d,Same.refl _,rp H,q⟩
def zm6:DTF:=λ_ Q=>Q []
def zhk(t:DTE)(r:DTF):DTF:=λσ Q=>t σ λd=>r σ λds=>Q (d::ds)
theorem yd:DA X [] zm6:=⟨λpos pins s σ H H₀ σD Q I ok q=>thn (xy pos pins s σ H (λvs H'=>vs = []/\H'=H) I ⟨rfl,rfl⟩) λus s' zq47=>by obtain⟨vs,H',I',r,e1,e2⟩:=zq47;subst e1 e2;exact⟨[],H',[],I',r,Same.refl _,.nil,q⟩⟩
theorem zg{t:DTE}{r:DTF}(ha:DE X e t)(hr:DA X es r)(hs:starEach (e::es) X.env=(false,eval e X.env)::starEach es X.env:=by rfl):DA X (e::es) (zhk t r):=⟨λpos pins s σ H H₀ σD Q I ok q=>by
 refine thn (yu ha.pe hr.pa hs pos pins s σ H (λvs H'=>∃ds,Same H H'/\Reps X.K H' ds vs/\Q ds) I ?_) λus s' zq19=>by obtain⟨vs,H',I',r,ds,sm,rp,qd⟩:=zq19;exact⟨vs,H',ds,I',r,sm,rp,qd⟩
 exact⟨H₀,σD,_,ok,q,λv H1 d s1 r1 q1=>⟨H₀,σD,_,ok.after s1,q1,λvs H2 ds s2 r2 q2=>⟨d::ds,s1.trans s2,.cons (r1.same s2) r2,q2⟩⟩⟩⟩
theorem yb:DAv X [] zm6:=⟨λpos pins s σ H H₀ σD Q I ok q=>thn (xy pos pins s σ H (λvs H'=>vs = []/\H'=H) I ⟨rfl,rfl⟩) λus s' zq49=>by obtain⟨vs,H',I',r,e1,e2⟩:=zq49;subst e1 e2;exact⟨[],H',[],I',r,Same.refl _,.nil,q⟩⟩
theorem zm{t:DTE}{r:DTF}(ha:DV X e t)(hr:DAv X es r)(hs:starEach (e::es) X.env=(false,eval e X.env)::starEach es X.env:=by rfl):DAv X (e::es) (zhk t r):=⟨λpos pins s σ H H₀ σD Q I ok q=>by
 refine thn (yu ha.pe hr.pa hs pos pins s σ H (λvs H'=>∃ds,Same H H'/\RepTs X.K H' ds vs/\Q ds) I ?_) λus s' zq20=>by obtain⟨vs,H',I',r,ds,sm,rp,qd⟩:=zq20;exact⟨vs,H',ds,I',r,sm,rp,qd⟩
 exact⟨H₀,σD,_,ok,q,λv H1 d s1 r1 q1=>⟨H₀,σD,_,ok.after s1,q1,λvs H2 ds s2 r2 q2=>⟨d::ds,s1.trans s2,.cons (r1.same s2) r2,q2⟩⟩⟩⟩
def zes:DTP:=λ_ Q=>Q []
def zka(t:DTE)(r:DTP):DTP:=λσ Q=>t σ λd=>r σ λws=>Q (.val d::ws)
def zm7(i:Nat)(r:DTP):DTP:=λσ Q=>match σ[i]? with
 |some (some (.own (.lst xs)))=>r σ λws=>Q (.vw xs::ws)
 |some (some (.vw xs))=>r σ λws=>Q (.vw xs::ws)
 |some (some (.scr ns))=>r σ λws=>Q (.scr ns::ws)
 |some (some (.val d))=>r σ λws=>Q (.val d::ws)
 |some (some .pen)=>r σ λws=>Q (.pen::ws)
 |_=>False
theorem zh:DPs X [] zes:=⟨λpos pins s σ H H₀ σD Q I ok q=>thn (xy pos pins s σ H (λvs H'=>vs = []/\H'=H) I ⟨rfl,rfl⟩) λus s' zq49=>by obtain⟨vs,H',I',r,e1,e2⟩:=zq49;subst e1 e2;exact⟨[],H',[],I',r,Same.refl _,.nil,q⟩⟩
theorem zu{t:DTE}{r:DTP}(ha:DE X e t)(hr:DPs X es r)(hs:starEach (e::es) X.env=(false,eval e X.env)::starEach es X.env:=by rfl):DPs X (e::es) (zka t r):=⟨λpos pins s σ H H₀ σD Q I ok q=>by
 refine thn (yu ha.pe hr.pa hs pos pins s σ H (λvs H'=>∃ws,Same H H'/\RepWs X.K H' ws vs/\Q ws) I ?_) λus s' zq20=>by obtain⟨vs,H',I',r,ds,sm,rp,qd⟩:=zq20;exact⟨vs,H',ds,I',r,sm,rp,qd⟩
 exact⟨H₀,σD,_,ok,q,λv H1 d s1 r1 q1=>⟨H₀,σD,_,ok.after s1,q1,λvs H2 ds s2 r2 q2=>⟨.val d::ds,s1.trans s2,.cons (r1.same s2) r2,q2⟩⟩⟩⟩
theorem zd(i:Nat){x:Str}{pos:Pos}{r:DTP}(hr:DPs X es r)(hN:X.N[i]?=some x:=by rfl)(hv:Vis X.env.scope x:=by first|exact Or.inl rfl|exact Or.inr (Or.inl rfl)|exact Or.inr (Or.inr rfl))(hd:(x ==("__debug__" : Str))=false:=by decide)
  (hcd:(x ==("__classdict__" : Str))=false:=by decide) (hs:starEach (.Name x pos::es) X.env=(false,eval (.Name x pos) X.env)::starEach es X.env:=by rfl):DPs X (.Name x pos::es) (zm7 i r):=⟨λpos' pins s σ H H₀ σD Q I ok q=>by
 refine thn (yu (yp (i:=i) hN hv hd hcd) hr.pa hs pos' pins s σ H (λvs H'=>∃ws,Same H H'/\RepWs X.K H' ws vs/\Q ws) I ?_) λus s' zq46=>by obtain⟨vs,H',I',r,ds,sm,rp,qd⟩:=zq46;exact⟨vs,H',ds,I',r,sm,rp,qd⟩
 unfold zm7 at q
 split at q
 ·next xs e=>
  obtain⟨a,vs,e1,e2,r,_⟩:=ok.ownL e;exact⟨.ref a,e1,H₀,σD,_,ok,q,λws H2 ds s2 r2 q2=>⟨.vw xs::ds,s2,.cons (RepL.same s2 ⟨a,vs,rfl,.inl e2,r⟩) r2,q2⟩⟩
 ·next xs e=>
  obtain⟨v,e1,r⟩:=ok.vw e;exact⟨v,e1,H₀,σD,_,ok,q,λws H2 ds s2 r2 q2=>⟨.vw xs::ds,s2,.cons (RepL.same s2 r) r2,q2⟩⟩
 ·next ns e=>
  obtain⟨a,e1,r⟩:=ok.scr e;exact⟨.ref a,e1,H₀,σD,_,ok,q,λws H2 ds s2 r2 q2=>⟨.scr ns::ds,s2,.cons ⟨a,rfl,s2.seq r⟩ r2,q2⟩⟩
 ·next d e=>
  obtain⟨v,e1,r⟩:=ok.val e;exact⟨v,e1,H₀,σD,_,ok,q,λws H2 ds s2 r2 q2=>⟨.val d::ds,s2,.cons (r.same s2) r2,q2⟩⟩
 ·next e=>
  obtain⟨a,e1,r⟩:=ok.pen e;exact⟨.ref a,e1,H₀,σD,_,ok,q,λws H2 ds s2 r2 q2=>⟨.pen::ds,s2,.cons ⟨a,rfl,s2 _ _ r⟩ r2,q2⟩⟩
 ·exact q.elim⟩
def zqd(t:DTF):DTE:=λσ Q=>t σ λds=>ds.length<=sizeLine/\Q (.tuple ds)
def zqe(t:DTF):DTF:=λσ Q=>t σ λds=>ds.length<=sizeLine/\Q ds
theorem yw{x1 pos}{t:DTF}(h:DA X es t):DE X (.Tuple es x1 pos) (zqd t) :=
 DE.of (zf7 h.pa) λσ H H₀ σD QD ok q=>⟨H₀,σD,_,ok,q,λvs H1 ds s1 r1 q1=>⟨by rw[<-r1.length];exact q1.1,λp hp=>⟨.tuple ds,s1.trans (zw hp _),.tup (SqT.of zl) (r1.same (zw hp _)),q1.2⟩⟩⟩
theorem wm{pos}{t:DTF}(h:DA X es t):DF X (.List es pos) (zqe t) :=
 DF.of (zp4 h.pa) λσ H H₀ σD QD ok q=>⟨H₀,σD,_,ok,q,λvs H1 ds s1 r1 q1=>⟨by rw[<-r1.length];exact q1.1,λp hp=>⟨p,vs,ds,rfl,s1.trans (zw hp _),s1.free hp,zl,r1.same (zw hp _),q1.2⟩⟩⟩
variable {a b:Expr}{rest:List Expr}{pos:Pos}
def onB(Q:Bool->Prop):D->Prop
 |.bool b=>Q b
 |_=>False
def dTB(t:DTE):DTT:=λσ Q=>t σ (onB Q)
def dOr(t u:DTT):DTT:=λσ Q=>t σ λc=>if c=true then Q true else u σ Q
def zqf(t:DTT):DTT:=λσ Q=>t σ λc=>Q (!c)
theorem DWt.dt{t:DTT}(h:DWt X e t):DT X e t:=⟨h.run _⟩
theorem wn{t:DTT}(ha:DT X a t):DWt X (.BoolOp .Or [a] pos) t:=⟨λwh pins s σ H H₀ σD Q I ok q=>by
 refine isTrue_or (thn (ha.run pins s σ H H₀ σD Q I ok q) λc s1 e=>?_)
 cases c with
 |false=>exact isTrue_or_nil e
 |true=>exact e⟩
theorem v5{t u:DTT}(ha:DT X a t)(hb:DWt X (.BoolOp .Or (b::rest) pos) u):DWt X (.BoolOp .Or (a::b::rest) pos) (dOr t u):=⟨λwh pins s σ H H₀ σD Q I ok q=>by
 refine isTrue_or (thn (ha.run pins s σ H H₀ σD _ I ok q) λc s1 zr9=>?_);obtain⟨H1,I1,sm,q1⟩:=zr9
 cases c with
 |false=>
  rw[if_neg Bool.false_ne_true]at q1;exact thn (hb.run wh pins s1 σ H1 H₀ σD Q I1 (ok.after sm) q1) λ_ _ zq67=>by obtain⟨H2,I2,s2,q2⟩:=zq67;exact⟨H2,I2,sm.trans s2,q2⟩
 |true=>rw[if_pos rfl]at q1;exact⟨H1,I1,sm,q1⟩⟩
theorem xh{t:DTT}(ha:DT X a t):DT X (.UnaryOp .Not a pos) (zqf t):=⟨λpins s σ H H₀ σD Q I ok q=>isTrue_not (ha.run pins s σ H H₀ σD (λc=>Q (!c)) I ok q)⟩
def zkb:D->Bool
 |.none=>false
 |.bool b=>b
 |.int i=>i != 0
 |.str x=>(x.length:Int) != 0
 |.tuple xs=>!xs.isEmpty
 |.list xs=>!xs.isEmpty
 |.dict kvs=>!kvs.isEmpty
def zqg(t:DTE):DTT:=λσ Q=>t σ λd=>match d with
 |.str x=>x.length<=sizeLine/\Q (zkb (.str x))
 |.dict _=>False
 |d=>Q (zkb d)
theorem zgc{K:PySem.W.Frag}{H:Hp}{ds:List D}{vs:List V}(r:Reps K H ds vs):(!vs.isEmpty) = !ds.isEmpty:=by cases r <;> rfl
theorem qw{K:PySem.W.Frag}{H:Hp}{d:D}{v:V}(r:RepT K H d v)(h:match d with|.str x=>x.length<=sizeLine|.dict _=>False|_=>True):zp0 K v H (zkb d):=by
 rcases r with r |⟨xs,rfl,a,vs,rfl,e,r⟩
 ·cases r with
  |non=>rfl
  |bl=>rfl
  |int=>rfl
  |str=>exact⟨h,rfl⟩
  |tup q r=>exact .inr (.inl ⟨_,q,(zgc r).symm⟩)
  |lst q r=>exact .inl ⟨_,.inl (.inr ⟨_,q⟩),(zgc r).symm⟩
  |dic q r=>exact h.elim
 ·exact .inl ⟨vs,.inl e,(zgc r).symm⟩
theorem xi{t:DTE}(h:DV X e t)(he:∀whole,isTrue e X.env whole=(do let v <-whole;standAt e.pos;holding [v] (truthy v)):=by intro _;rfl):DT X e (zqg t) :=
 DT.of (zej h.pe he) λσ H H₀ σD QD ok q=>⟨H₀,σD,_,ok,q,λv H1 d s1 r1 q1=>by
  cases d with
  |str x=>exact⟨_,qw r1 q1.1,s1,q1.2⟩
  |dict _=>exact q1.elim
  |none=>exact⟨_,qw r1 trivial,s1,q1⟩
  |bool _=>exact⟨_,qw r1 trivial,s1,q1⟩
  |int _=>exact⟨_,qw r1 trivial,s1,q1⟩
  |tuple _=>exact⟨_,qw r1 trivial,s1,q1⟩
  |list _=>exact⟨_,qw r1 trivial,s1,q1⟩⟩
def zkc(t u:DTE):DTE:=λσ Q=>t σ λd=>match d with
 |.bool c=>if c=true then u σ Q else Q (.bool false)
 |_=>False
def zqh(c:DTT)(t u:DTE):DTE:=λσ Q=>c σ λb=>if b=true then t σ Q else u σ Q
theorem zbh{op}{t:DTE}(h:DE X a t):DE X (.BoolOp op [a] pos) t:=⟨λpins s σ H H₀ σD Q I ok q=>BoolOp_one (h.run pins s σ H H₀ σD Q I ok q)⟩
theorem DEnd.back{pins:List (Addr×Obj)}{σ:St}{H H1:Hp}{Q:D->Prop}{u:Value}{s':Shared}(s1:Same H H1)(h:DEnd X pins σ H1 Q u s'):DEnd X pins σ H Q u s':=let ⟨v,H',d,I',r,sm,rp,qd⟩:=h;⟨v,H',d,I',r,s1.trans sm,rp,qd⟩
theorem zbi{t u:DTE}(ha:DE X a t)(hb:DE X (.BoolOp .And (b::rest) pos) u):DE X (.BoolOp .And (a::b::rest) pos) (zkc t u):=⟨λpins s σ H H₀ σD Q I ok q=>by
 refine BoolOp_and (thn (ha.run pins s σ H H₀ σD _ I ok q) λv s1 zr64=>?_);obtain⟨x,H1,d,I1,r1,sm,rp,q1⟩:=zr64
 cases d with
 |bool c=>
  cases rp
  cases r1;refine wpAny_truthy_bool ?_
  cases c with
  |true=>exact thn (hb.run pins s1 σ H1 H₀ σD Q I1 (ok.after sm) (by simpa using q1)) λ_ _ h=>h.back sm
  |false=>exact⟨.bl false,H1,.bool false,I1,rfl,sm,.bl,by simpa using q1⟩
 |_=>exact q1.elim⟩
theorem zkd{c:Expr}{tc:DTT}{t u:DTE}(hc:DT X c tc)(ha:DE X a t)(hb:DE X b u):DE X (.IfExp c a b pos) (zqh tc t u) :=
 DE.of (zji hc.pt ha.pe hb.pe) λσ H H₀ σD QD ok q=>⟨H₀,σD,_,ok,q,λk H1 s1 q1=>by
  cases k with
  |true=>rw[if_pos rfl]at q1 ⊢;exact⟨H₀,σD,_,ok.after s1,q1,λv H2 d s2 r2 q2=>⟨d,s1.trans s2,r2,q2⟩⟩
  |false=>rw[if_neg Bool.false_ne_true]at q1 ⊢;exact⟨H₀,σD,_,ok.after s1,q1,λv H2 d s2 r2 q2=>⟨d,s1.trans s2,r2,q2⟩⟩⟩
end
section
variable {X:Cx}{pins:List (Addr×Obj)}{σ:St}{H:Hp}{s:Shared}
theorem Reps.readsW(I:Inv X pins σ H s){ds:List D}{vs:List V}(h:Reps X.K H ds vs)(k:∀d∈ds,∀(v:V) (u:Value),Rep X.K H d v->RelV v u->d.canLay0=true->∃as,Reads s.heap u d as){us:List Value}(r:Vals vs us)(c:PyData.canLayAll0 ds=true):∃as,ReadsAll s.heap us ds as:=by
 induction ds generalizing vs us with
 |nil=>cases h;cases r;exact⟨_,.nil⟩
 |cons d ds ih=>
  cases h with
  |cons q t=>
   cases r with
   |cons r1 r2=>
    simp only[PyData.canLayAll0,Bool.and_eq_true]at c;obtain⟨as,ra⟩:=k d List.mem_cons_self _ _ q r1 c.1;obtain⟨bs,rb⟩:=ih t (λx hx=>k x (List.mem_cons_of_mem _ hx)) r2 c.2;exact⟨_,.cons ra rb⟩
theorem Rep.reads(I:Inv X pins σ H s){d:D}{v:V}{u:Value}(h:Rep X.K H d v)(r:RelV v u)(c:d.canLay0=true):∃as,Reads s.heap u d as:=by
 refine Rep.rec (motive_1:=λd v _=>∀u:Value,RelV v u->d.canLay0=true->∃as,Reads s.heap u d as) (motive_2:=λds vs _=>∀us:List Value,Vals vs us->PyData.canLayAll0 ds=true->∃as,ReadsAll s.heap us ds as) (motive_3:=λ_ _ _=>True)
  ?_ ?_ ?_ ?_ ?_ ?_ ?_ ?_ ?_ trivial (λ_ _ _ _=>trivial) h u r c
 ·intro u r _;cases r;exact⟨_,.none⟩
 ·intro b u r _;cases r;exact⟨_,.bool _⟩
 ·intro i u r _;obtain⟨t,rfl⟩:=r;exact⟨_,.int _ _⟩
 ·intro x u r _;obtain⟨t,rfl⟩:=r;exact⟨_,.str _ _⟩
 ·intro xs a vs h q ih u r c
  cases r;obtain⟨its,rv,⟨o,e1,e2,n,e3⟩,_⟩:=I.tuple h;obtain⟨as,ra⟩:=ih its rv (by simpa[PyData.canLay0]using c);exact⟨_,.tuple e1 e2 e3 (by simpa using ra)⟩
 ·intro xs a vs o h q ih u r c
  cases r;obtain⟨_,z,its,n,rv,e⟩:=I.hok _ _ h;obtain⟨as,ra⟩:=ih its rv (by simpa[PyData.canLay0]using c);exact⟨_,.list e rfl rfl (by simpa using ra)⟩
 ·intro kvs a kws o h q ih u r c;simp[PyData.canLay0]at c
 ·intro us r _;cases r;exact⟨_,.nil⟩
 ·intro d v ds vs q t i j us r c
  cases r with
  |cons r1 r2=>
   simp only[PyData.canLayAll0,Bool.and_eq_true]at c;obtain⟨as,ra⟩:=i _ r1 c.1;obtain⟨bs,rb⟩:=j _ r2 c.2;exact⟨_,.cons ra rb⟩
theorem Reps.reads(I:Inv X pins σ H s){ds:List D}{vs:List V}{us:List Value}(h:Reps X.K H ds vs)(r:Vals vs us)(c:PyData.canLayAll0 ds=true):∃as,ReadsAll s.heap us ds as:=h.readsW I (λ_ _ _ _ q r c=>q.reads I r c) r c
theorem RepT.reads(I:Inv X pins σ H s){d:D}{v:V}{u:Value}(h:RepT X.K H d v)(r:RelV v u)(c:d.canLay0=true):∃as,Reads s.heap u d as:=by
 rcases h with h |⟨xs,rfl,a,vs,rfl,e,q⟩
 ·exact h.reads I r c
 ·cases r;obtain⟨z,its,n,rv,e⟩:=e.ok I.hok;obtain⟨as,ra⟩:=Reps.reads I q rv (by simpa[PyData.canLay0]using c);exact⟨_,.list e rfl rfl (by simpa using ra)⟩
end
def Lay(d:D):Prop:=SeqAt.shaped d=true
theorem Lay.can{d:D}(h:Lay d):d.canLay0=true:=by unfold Lay SeqAt.shaped at h;rw[Bool.and_eq_true]at h;exact h.1
theorem Lay.deep{d:D}(h:Lay d):d.depth<=64:=by unfold Lay SeqAt.shaped at h;rw[Bool.and_eq_true]at h;exact of_decide_eq_true h.2
abbrev DOp:=D->D->(D->Prop)->Prop
structure OpD(X:Cx)(f:Value->Value->Sem Value)(g:DOp):Prop where
 run:∀(pins:List (Addr×Obj)) (s:Shared) (σ:St) (H:Hp) (x y:V) (v u:Value) (a b:D) (Q:D->Prop),Inv X pins σ H s->RelV x v->RelV y u->RepT X.K H a x->RepT X.K H b y->g a b Q->wpAny (model X.prog X.w) X.A (f v u) (DEnd X pins σ H Q) X.xe s
structure OpF(X:Cx)(f:Value->Value->Sem Value)(g:D->D->(List D->Prop)->Prop):Prop where
 run:∀(pins:List (Addr×Obj)) (s:Shared) (σ:St) (H:Hp) (x y:V) (v u:Value) (a b:D) (Q:List D->Prop),Inv X pins σ H s->RelV x v->RelV y u->RepT X.K H a x->RepT X.K H b y->g a b Q->wpAny (model X.prog X.w) X.A (f v u) (zhj X pins σ H Q) X.xe s
def dOp(g:DOp)(ta tb:DTE):DTE:=λσ Q=>ta σ λa=>tb σ λb=>g a b Q
section
variable {X:Cx}{a b c:Expr}{ta tb tc:DTE}{pos:Pos}
theorem OpD.of{f:Value->Value->Sem Value}{r:R2}{g:DOp}(h:OpR X f r)(k:∀x y H a b Q,RepT X.K H a x->RepT X.K H b y->g a b Q->r x y H (λv H'=>∃d,Same H H'/\Rep X.K H' d v/\Q d)):OpD X f g :=
 ⟨λpins s σ H x y v u a b Q I rx ry ra rb q=>thn (h pins s σ H x y v u _ I rx ry (k x y H a b Q ra rb q)) λw s' zq15=>by obtain⟨z,H',I',rz,d,sm,rp,qd⟩:=zq15;exact⟨z,H',d,I',rz,sm,rp,qd⟩⟩
theorem OpF.of{f:Value->Value->Sem Value}{r:R2}{g:D->D->(List D->Prop)->Prop}(h:OpR X f r)(k:∀x y H a b Q,RepT X.K H a x->RepT X.K H b y->g a b Q->r x y H (λv H'=>∃p vs xs,v=.ref p/\Same H H'/\H p=none/\H' p=some (.lst vs)/\Reps X.K H' xs vs/\Q xs)):OpF X f g :=
 ⟨λpins s σ H x y v u a b Q I rx ry ra rb q=>thn (h pins s σ H x y v u _ I rx ry (k x y H a b Q ra rb q)) λw s' zq15=>by obtain⟨z,H',I',rz,p,vs,xs,ez,sm,n,e,rp,qd⟩:=zq15;exact⟨p,H',vs,xs,by subst ez;exact rz,I',sm,n,e,rp,qd⟩⟩
theorem OpF.opD{f:Value->Value->Sem Value}{g:D->D->(List D->Prop)->Prop}(h:OpF X f g):OpD X f (λa b Q=>g a b λxs=>Q (.list xs)) :=
 ⟨λpins s σ H x y v u a b Q I rx ry ra rb q=>thn (h.run pins s σ H x y v u a b _ I rx ry ra rb q) λw s' zq7=>by
  obtain⟨p,H',vs,xs,ew,I',sm,n,e,rp,qd⟩:=zq7;obtain⟨H'',J,sm',r'⟩:=zga I' sm n e rp;exact⟨.ref p,H'',.list xs,J,ew,sm',r',qd⟩⟩
theorem ztf{ta tb:DTE}(ha:DV X a ta)(hb:DV X b tb){pins:List (Addr×Obj)}{s:Shared}{σ:St}{H H₀:Hp}{σD:DSt}{R:D->D->Prop}(I:Inv X pins σ H s)(ok:DOk X.K H₀ H σD σ)(h:ta σD λx=>tb σD λy=>R x y)
  {α:Type}{Q:α->Shared->Prop}{f:Value->Value->Sem α}
  (hf:∀v u s2 x y H2 d e,Inv X pins σ H2 s2->RelV x v->RelV y u->Same H H2->RepT X.K H2 d x->RepT X.K H2 e y->R d e->wpAny (model X.prog X.w) X.A (f v u) Q X.xe s2) :
  wpAny (model X.prog X.w) X.A (eval a X.env) (λv s₁=>wpAny (model X.prog X.w) X.A (eval b X.env) (λu s₂=>wpAny (model X.prog X.w) X.A (f v u) Q X.xe s₂) X.xe s₁) X.xe s:=by
 refine thn (ha.run pins s σ H H₀ σD _ I ok h) λv s1 zr1=>?_;obtain⟨x,H1,d,I1,r1,sm1,p1,q1⟩:=zr1;refine thn (hb.run pins s1 σ H1 H₀ σD _ I1 (ok.after sm1) q1) λu s2 zr2=>?_;obtain⟨y,H2,e,I2,r2,sm2,p2,q2⟩:=zr2;exact hf v u s2 x y H2 d e I2 r1 r2 (sm1.trans sm2) (p1.same sm2) p2 q2
theorem ya{op:Operator}{g:DOp}(ho:OpD X (binaryOp op) g)(ha:DV X a ta)(hb:DV X b tb):DE X (.BinOp a op b pos) (dOp g ta tb) :=
 ⟨λpins s σ H H₀ σD Q I ok q=>wpAny_BinOp (ztf ha hb I ok q λv u s2 x y H2 d e I2 rx ry sm rd re qd=>thn (ho.run pins s2 σ H2 x y v u d e Q I2 rx ry rd re qd) λ_ _ z=>z.back sm)⟩
theorem wo{op:CmpOp}{g:DOp}(ho:OpD X (compareOp op) g)(ha:DV X a ta)(hb:DV X b tb)(hm:behindInMarks op b=false):DE X (.Compare a [op] [b] pos) (dOp g ta tb) :=
 ⟨λpins s σ H H₀ σD Q I ok q=>wpAny_Compare1 (ztf ha hb I ok q λv u s2 x y H2 d e I2 rx ry sm rd re qd=>thn (ho.run pins s2 σ H2 x y v u d e Q I2 rx ry rd re qd) λ_ _ z=>z.back sm) hm⟩
theorem yg{op:CmpOp}{g:DOp}(ho:OpD X (compareOp op) g)(ha:DV X a ta)(hb:DV X b tb)(hm:behindInMarks op b=false):DT X (.Compare a [op] [b] pos) (dTB (dOp g ta tb)) :=
 ⟨λpins s σ H H₀ σD Q I ok q=>by
  refine wpAny_isTrue_Compare1 (thn (ha.run pins s σ H H₀ σD _ I ok q) λv s1 ⟨x,H1,d,I1,r1,sm1,p1,q1⟩=>thn (hb.run pins s1 σ H1 H₀ σD _ I1 (ok.after sm1) q1) λu s2 ⟨y,H2,e,I2,r2,sm2,p2,q2⟩=>
   thn (ho.run pins s2 σ H2 x y v u d e _ I2 r1 r2 (p1.same sm2) p2 q2) λk s3 ⟨z,H3,dz,I3,r3,sm3,p3,q3⟩=>?_) hm
  cases dz with
  |bool k=>
   cases p3
   cases r3;exact wpAny_truthy_bool ⟨H3,I3,(sm1.trans sm2).trans sm3,q3⟩
  |_=>exact q3.elim⟩
def zdi(g g':DOp)(ta tb tc:DTE):DTE:=λσ Q=>ta σ λa=>tb σ λb=>g a b λz=>match z with
 |.bool k=>if k=true then tc σ λc=>g' b c Q else Q (.bool false)
 |_=>False
theorem zke{op op':CmpOp}{g g':DOp}(ho:OpD X (compareOp op) g)(ho':OpD X (compareOp op') g')(ha:DV X a ta)(hb:DV X b tb)(hc:DV X c tc)
  (hm:lastMarks [op,op'] [b,c]=false:=by with_unfolding_all rfl):DE X (.Compare a [op,op'] [b,c] pos) (zdi g g' ta tb tc):=⟨λpins s σ H H₀ σD Q I ok q=>by
 refine Compare_chain (thn (ha.run pins s σ H H₀ σD _ I ok q) λv s1 ⟨x,H1,d,I1,r1,sm1,p1,q1⟩=>chain_link (thn (hb.run pins s1 σ H1 H₀ σD _ I1 (ok.after sm1) q1) λu s2 ⟨y,H2,e,I2,r2,sm2,p2,q2⟩=>
  thn (ho.run pins s2 σ H2 x y v u d e _ I2 r1 r2 (p1.same sm2) p2 q2) λk s3 ⟨z,H3,dz,I3,r3,sm3,p3,q3⟩=>?_)) hm
 cases dz with
 |bool k=>
  cases p3
  cases r3;refine wpAny_truthy_bool ?_
  cases k with
  |false=>exact ite_ff ⟨.bl false,H3,.bool false,I3,rfl,(sm1.trans sm2).trans sm3,.bl,by simpa using q3⟩
  |true=>
   refine ite_tt (chain_last (thn (hc.run pins s3 σ H3 H₀ σD (λc=>g' e c Q) I3 (ok.after ((sm1.trans sm2).trans sm3)) (by simpa using q3)) λw' s4 zr36=>?_));obtain⟨z',H4,f,I4,r4,sm4,p4,q4⟩:=zr36;exact thn (ho'.run pins s4 σ H4 y z' u w' e f Q I4 r2 r4 ((p2.same sm3).same sm4) p4 q4) λ_ _ z=>z.back (((sm1.trans sm2).trans sm3).trans sm4)
 |_=>exact q3.elim⟩
theorem zkf{op op':CmpOp}{g g':DOp}(ho:OpD X (compareOp op) g)(ho':OpD X (compareOp op') g')(ha:DV X a ta)(hb:DV X b tb)(hc:DV X c tc)
  (hm:lastMarks [op,op'] [b,c]=false:=by with_unfolding_all rfl):DT X (.Compare a [op,op'] [b,c] pos) (dTB (zdi g g' ta tb tc)):=⟨λpins s σ H H₀ σD Q I ok q=>by
 refine isTrue_chain (thn (ha.run pins s σ H H₀ σD _ I ok q) λv s1 ⟨x,H1,d,I1,r1,sm1,p1,q1⟩=>test_link (thn (hb.run pins s1 σ H1 H₀ σD _ I1 (ok.after sm1) q1) λu s2 ⟨y,H2,e,I2,r2,sm2,p2,q2⟩=>
  thn (ho.run pins s2 σ H2 x y v u d e _ I2 r1 r2 (p1.same sm2) p2 q2) λk s3 ⟨z,H3,dz,I3,r3,sm3,p3,q3⟩=>?_)) hm
 cases dz with
 |bool k=>
  cases p3
  cases r3;refine wpAny_truthy_bool ?_
  cases k with
  |false=>exact ite_ff ⟨H3,I3,(sm1.trans sm2).trans sm3,by simpa[onB]using q3⟩
  |true=>
   refine ite_tt (test_last (thn (hc.run pins s3 σ H3 H₀ σD (λc=>g' e c (onB Q)) I3 (ok.after ((sm1.trans sm2).trans sm3)) (by simpa using q3)) λw' s4 zr51=>?_));obtain⟨z',H4,f,I4,r4,sm4,p4,q4⟩:=zr51;refine thn (ho'.run pins s4 σ H4 y z' u w' e f _ I4 r2 r4 ((p2.same sm3).same sm4) p4 q4) λk' s5 zr52=>?_;obtain⟨z2,H5,dz2,I5,r5,sm5,p5,q5⟩:=zr52
   cases dz2 with
   |bool k2=>
    cases p5
    cases r5;exact wpAny_truthy_bool ⟨H5,I5,(((sm1.trans sm2).trans sm3).trans sm4).trans sm5,q5⟩
   |_=>exact q5.elim
 |_=>exact q3.elim⟩
def dUn(g:D->(D->Prop)->Prop)(ta:DTE):DTE:=λσ Q=>ta σ λa=>g a Q
def zqi:D->(D->Prop)->Prop
 |.int i,Q=>Q (.int (-i))
 |_,_=>False
theorem zbj(ha:DE X a ta):DE X (.UnaryOp .USub a pos) (dUn zqi ta) :=
 DE.of (zsq zpx ha.pe) λσ H H₀ σD QD ok q=>⟨H₀,σD,_,ok,q,λv H1 d s1 r1 q1=>by
  cases d with
  |int i=>cases r1;exact⟨i,rfl,.int (-i),s1,.int,q1⟩
  |_=>exact q1.elim⟩
def zqj:D->(D->Prop)->Prop
 |.bool b,Q=>Q (.bool (!b))
 |_,_=>False
theorem zqk(ha:DE X a ta):DE X (.UnaryOp .Not a pos) (dUn zqj ta) :=
 DE.of (zpo ha.pe) λσ H H₀ σD QD ok q=>⟨H₀,σD,_,ok,q,λv H1 d s1 r1 q1=>by
  cases d with
  |bool i=>cases r1;exact⟨i,rfl,.bool (!i),s1,.bl,q1⟩
  |_=>exact q1.elim⟩
theorem RepT.int{K:PySem.W.Frag}{H:Hp}{i:Int}{v:V}(h:RepT K H (.int i) v):v=.int i:=by
 rcases h with h |⟨_,e,_⟩
 ·cases h;rfl
 ·cases e
theorem RepT.str{K:PySem.W.Frag}{H:Hp}{i:Str}{v:V}(h:RepT K H (.str i) v):v=.str i:=by
 rcases h with h |⟨_,e,_⟩
 ·cases h;rfl
 ·cases e
theorem RepT.bool{K:PySem.W.Frag}{H:Hp}{i:Bool}{v:V}(h:RepT K H (.bool i) v):v=.bl i:=by
 rcases h with h |⟨_,e,_⟩
 ·cases h;rfl
 ·cases e
theorem RepT.none{K:PySem.W.Frag}{H:Hp}{v:V}(h:RepT K H .none v):v=.non:=by
 rcases h with h |⟨_,e,_⟩
 ·cases h;rfl
 ·cases e
theorem RepT.tuple{K:PySem.W.Frag}{H:Hp}{xs:List D}{v:V}(h:RepT K H (.tuple xs) v):∃a vs,v=.ref a/\SqT K H a vs/\Reps K H xs vs:=by
 rcases h with h |⟨_,e,_⟩
 ·cases h with
  |tup h r=>exact⟨_,_,rfl,h,r⟩
 ·cases e
def gII(C:Int->Int->Prop)(f:Int->Int->D):DOp
 |.int i,.int j,Q=>C i j/\Q (f i j)
 |_,_,_=>False
def zdj(f:Int->Int->D):DOp
 |.int i,.int j,Q=>Q (f i j)
 |_,_,_=>False
theorem OpD.ii{f:Value->Value->Sem Value}{C:Int->Int->Prop}{g:Int->Int->Int}(h:OpR X f (rI C λi j=>.int (g i j))):OpD X f (gII C λi j=>.int (g i j)) :=
 OpD.of h λx y H a b Q ra rb q=>by
  cases a with
  |int i=>
   cases b with
   |int j=>cases ra.int;cases rb.int;exact⟨i,j,rfl,rfl,q.1,.int _,Same.refl _,.int,q.2⟩
   |_=>exact q.elim
  |_=>exact q.elim
theorem OpD.ii0{f:Value->Value->Sem Value}{g:Int->Int->Int}(h:OpR X f (rI0 λi j=>.int (g i j))):OpD X f (zdj λi j=>.int (g i j)) :=
 OpD.of h λx y H a b Q ra rb q=>by
  cases a with
  |int i=>
   cases b with
   |int j=>cases ra.int;cases rb.int;exact⟨i,j,rfl,rfl,.int _,Same.refl _,.int,q⟩
   |_=>exact q.elim
  |_=>exact q.elim
theorem OpD.ib0{f:Value->Value->Sem Value}{g:Int->Int->Bool}(h:OpR X f (rI0 λi j=>.bl (g i j))):OpD X f (zdj λi j=>.bool (g i j)) :=
 OpD.of h λx y H a b Q ra rb q=>by
  cases a with
  |int i=>
   cases b with
   |int j=>cases ra.int;cases rb.int;exact⟨i,j,rfl,rfl,.bool _,Same.refl _,.bl,q⟩
   |_=>exact q.elim
  |_=>exact q.elim
theorem v6:OpD X (binaryOp .Sub) (zdj λi j=>.int (i-j)):=OpD.ii0 zpu
theorem zkg:OpD X (binaryOp .FloorDiv) (gII zj5 λi j=>.int (i / j)):=OpD.ii zbe
theorem zkh:OpD X (binaryOp .Mod) (gII (λ_ j=>0<j) λi j=>.int (i % j)):=OpD.ii zfz
theorem ztg:OpD X (binaryOp .Pow) (gII zss λi j=>.int (i ^ j.toNat)):=OpD.ii zpw
theorem zm8:OpD X (compareOp .Lt) (zdj λi j=>.bool (decide (i<j))):=OpD.ib0 zsu
theorem zgd:OpD X (compareOp .LtE) (zdj λi j=>.bool (decide (i<=j))):=OpD.ib0 zsv
theorem zet:OpD X (compareOp .Gt) (zdj λi j=>.bool (decide (j<i))):=OpD.ib0 zou
theorem zth:OpD X (compareOp .GtE) (zdj λi j=>.bool (decide (j<=i))):=OpD.ib0 zsw
def zql:D->D->(List D->Prop)->Prop
 |.list xs,.list ys,Q=>xs.length+ys.length<=sizeLine/\Q (xs++ys)
 |_,_,_=>False
theorem zm9:OpR X (binaryOp .Add) (λx y H Q=>∃l b xs zs,x=.ref l/\y=.ref b/\Rd H l (.lst xs)/\Rd H b (.lst zs)/\xs.length+zs.length<=sizeLine/\∀p,H p=none->Q (.ref p) (upd H p (.lst (xs++zs)))):=by
 intro pins s σ H x y v u Q I rx ry h;obtain⟨l,b,xs,zs,rfl,rfl,hH,hB,hz,q⟩:=h
 cases rx
 cases ry;obtain⟨z,its,n,r,e⟩:=hH.ok I.hok;obtain⟨z2,its2,n2,r2,e2⟩:=hB.ok I.hok;have hl:=r.length;have hl2:=r2.length;refine PySem.P.add_list e e2 ?_ (by rw[List.size_toArray,List.size_toArray];omega);have ea:its.toArray++its2.toArray=(its++its2).toArray:=by simp
 rw[ea];exact⟨.ref _,_,I.lnew (t':=s.toks) (r.append r2) (by rw[List.length_append];omega),rfl,q _ I.fresh⟩
theorem f_cat:OpF X (binaryOp .Add) zql:=OpF.of zm9 λx y H a b Q ra rb q=>by
 cases a with
 |list xs=>
  cases b with
  |list ys=>
   obtain⟨l,vs,rfl,hl,r1⟩:=ra.list;obtain⟨m,ws,rfl,hm,r2⟩:=rb.list;exact⟨l,m,vs,ws,rfl,rfl,hl,hm,by rw[<-r1.length,<-r2.length];exact q.1,λp hp=>⟨p,_,xs++ys,rfl,zw hp _,hp,zl,(r1.append r2).same (zw hp _),q.2⟩⟩
  |_=>exact q.elim
 |_=>exact q.elim
def zqm:D->D->(List D->Prop)->Prop
 |.list xs,.int k,Q=>-(2 ^ 63)<=k/\k<2 ^ 63/\xs.length * k.toNat<=sizeLine/\Q (List.replicate k.toNat xs).flatten
 |_,_,_=>False
theorem zna:OpR X (binaryOp .Mult) (λx y H Q=>∃l k xs,x=.ref l/\y=.int k/\Rd H l (.lst xs)/\-(2 ^ 63)<=k/\k<2 ^ 63/\xs.length * k.toNat<=sizeLine /\
 ∀p,H p=none->Q (.ref p) (upd H p (.lst (List.replicate k.toNat xs).flatten))):=by
 intro pins s σ H x y v u Q I rx ry h;obtain⟨l,k,xs,rfl,rfl,hH,h1,h2,hz,q⟩:=h
 cases rx;obtain⟨t,rfl⟩:=ry;obtain⟨z,its,n,r,e⟩:=hH.ok I.hok;have hl:=r.length;have hlen:its.toArray.size * k.toNat<=sizeLine:=by rw[List.size_toArray,<-hl];exact hz
 have hcap:¬ its.toArray.size * k.toNat >(2 ^ 63-1) / 8:=by
  have:(sizeLine:Nat)<=(2 ^ 63-1) / 8:=by decide
  omega
 have hfit:¬ (!Builtin.List.listFitsIndex k)=true:=by
  rw[fitsIndex_both h1 h2];exact Bool.false_ne_true
 have hlong:¬ Builtin.List.listTooLong (its.toArray.size * k.toNat)=true:=by
  rw[zjy hlen];exact Bool.false_ne_true
 have hnew:List.foldl (λx1 x2=>x1++x2) #[] (List.replicate (if its.toArray.isEmpty=true then 0 else k.toNat) its.toArray)=(List.replicate k.toNat its).flatten.toArray:=by
  have f0:∀m:Nat,List.foldl (λx1 x2=>x1++x2) #[] (List.replicate m its.toArray)=(List.replicate m its).flatten.toArray:=λm=>by
   have:=zcu its m [];rw[List.nil_append]at this;exact this
  rw[f0]
  cases its with
  |nil=>simp
  |cons a r'=>rw[if_neg (by simp)]
 refine wpAny_binaryOp_repeat_ref (T := "list") (U := "int") (by decide) ⟨_,e,rfl⟩ (λs'=>typeIs_int s' k t) noFill_list_mul F.fills_int_mul F.slot_int_rmul repeat_list F.slot_int_index.lookup
  (call_meets F.slot_int_rmul (typeIs_int s k t) F.entry_int_rmul (F.args_int_rmul_2 _ _) (int___rmul___int_list k t l its.toArray n)
   ⟨e,rfl,⟨_,e,rfl⟩,call_meets F.slot_list_mul ⟨_,e,rfl⟩ F.entry_list_mul (F.args_list_mul_2 _ _) (AutoListH.list___mul___list_int_3 l its.toArray n k t hfit hcap hlong) ⟨e,?_⟩⟩)
 rw[hnew];exact⟨.ref _,_,I.lnew (t':=s.toks) (r.rep k.toNat) (by rw[zm1,Nat.mul_comm];exact hz),rfl,q _ I.fresh⟩
theorem f_rep:OpF X (binaryOp .Mult) zqm:=OpF.of zna λx y H a b Q ra rb q=>by
 cases a with
 |list xs=>
  cases b with
  |int k=>
   obtain⟨l,vs,rfl,hl,r1⟩:=ra.list
   cases rb.int;obtain⟨h1,h2,h3,q⟩:=q;exact⟨l,k,vs,rfl,rfl,hl,h1,h2,by rw[<-r1.length];exact h3,λp hp=>⟨p,_,_,rfl,zw hp _,hp,zl,(r1.rep k.toNat).same (zw hp _),q⟩⟩
  |_=>exact q.elim
 |_=>exact q.elim
def zqn:DOp
 |.int i,.int j,Q=>Q (.int (i+j))
 |.str x,.str y,Q=>x.length+y.length<=sizeLine/\Q (.str (x++y))
 |.tuple xs,.tuple ys,Q=>xs.length+ys.length<=sizeLine/\Q (.tuple (xs++ys))
 |.list xs,.list ys,Q=>xs.length+ys.length<=sizeLine/\Q (.list (xs++ys))
 |_,_,_=>False
theorem znb:OpR X (binaryOp .Add) (λx y H Q=>∃a b xs ys,x=.ref a/\y=.ref b/\SqT X.K H a xs/\SqT X.K H b ys/\xs.length+ys.length<=sizeLine/\∀p H',Same H H'->SqT X.K H' p (xs++ys)->Q (.ref p) H'):=by
 intro pins s σ H x y v u Q I rx ry h;obtain⟨a,b,xs,ys,rfl,rfl,ha,hb,hz,q⟩:=h
 cases rx
 cases ry;obtain⟨its,r1,p1,_⟩:=I.tuple ha;obtain⟨its2,r2,p2,_⟩:=I.tuple hb
 by_cases hx:xs = []
 ·obtain⟨⟨cls,dd,data,sl⟩,ho,hc,n,hd⟩:=id p1;obtain⟨⟨cls2,dd2,data2,sl2⟩,ho2,hc2,n2,hd2⟩:=id p2;simp only at hc hd hc2 hd2;subst hc hd hc2 hd2;have hv:its = []:=r1.nil_iff.mpr hx;refine concat_meets ⟨_,ho,rfl⟩ ⟨_,ho2,rfl⟩ noFill_tuple_add seq_tuple_add PySem.F.slot_tuple_add PySem.F.entry_tuple_add (PySem.F.args_tuple_add_2 _ _) (tuple_addW0 a b its.toArray its2.toArray n n2 dd dd2 sl sl2 (by simp[hv])) ⟨ho,ho2,?_⟩;exact⟨.ref b,H,I,rfl,q b H (Same.refl H) (by rw[hx,List.nil_append];exact hb)⟩
 ·refine HT.cat_tup p1 p2 (λz=>hx (r1.nil_iff.mp z)) (λz=>⟨.ref a,H,I,rfl,q a H (Same.refl H) (by rw[r2.nil_iff.mp z,List.append_nil];exact ha)⟩) (λz=>?_) (by rw[<-r1.length,<-r2.length];exact hz);refine⟨.ref s.heap.objs.size,_,I.laid (t':=s.toks) (o:=.tup (xs++ys)) (λb ob q=>Heap.get?_push_of_some _ q) (Nat.le_refl _) ?_,rfl,q _ _ (zw (I.hok.fresh (Nat.le_refl _)) _) (SqT.of zl)⟩;exact⟨by rw[List.length_append];exact hz,_,r1.append r2,TupD.new _ _⟩
theorem o_catT:OpD X (binaryOp .Add) (λa b Q=>match a,b with|.tuple xs,.tuple ys=>xs.length+ys.length<=sizeLine/\Q (.tuple (xs++ys))|_,_=>False):=OpD.of znb λx y H a b Q ra rb q=>by
 cases a with
 |tuple xs=>
  cases b with
  |tuple ys=>
   obtain⟨l,vs,rfl,hl,r1⟩:=ra.tuple;obtain⟨m,ws,rfl,hm,r2⟩:=rb.tuple;exact⟨l,m,vs,ws,rfl,rfl,hl,hm,by rw[<-r1.length,<-r2.length];exact q.1,λp H' sm e=>⟨_,sm,.tup e ((r1.append r2).same sm),q.2⟩⟩
  |_=>exact q.elim
 |_=>exact q.elim
theorem o_addS:OpD X (binaryOp .Add) (λa b Q=>match a,b with|.str x,.str y=>x.length+y.length<=sizeLine/\Q (.str (x++y))|_,_=>False):=OpD.of zf1 λx y H a b Q ra rb q=>by
 cases a with
 |str xs=>
  cases b with
  |str ys=>cases ra.str;cases rb.str;exact⟨_,_,rfl,rfl,q.1,.str _,Same.refl _,.str,q.2⟩
  |_=>exact q.elim
 |_=>exact q.elim
theorem yq:OpD X (binaryOp .Add) zqn:=⟨λpins s σ H x y v u a b Q I rx ry ra rb q=>by
 cases a with
 |int i=>cases b with
  |int j=>exact(OpD.ii0 zjo).run pins s σ H x y v u _ _ Q I rx ry ra rb q
  |_=>exact q.elim
 |str i=>cases b with
  |str j=>exact o_addS.run pins s σ H x y v u _ _ Q I rx ry ra rb q
  |_=>exact q.elim
 |tuple i=>cases b with
  |tuple j=>exact o_catT.run pins s σ H x y v u _ _ Q I rx ry ra rb q
  |_=>exact q.elim
 |list i=>cases b with
  |list j=>exact f_cat.opD.run pins s σ H x y v u _ _ Q I rx ry ra rb q
  |_=>exact q.elim
 |_=>exact q.elim⟩
def zqo:DOp
 |.int i,.int j,Q=>CMul i j/\Q (.int (i * j))
 |.list xs,.int k,Q=>-(2 ^ 63)<=k/\k<2 ^ 63/\xs.length * k.toNat<=sizeLine/\Q (.list (List.replicate k.toNat xs).flatten)
 |_,_,_=>False
theorem zeu:OpD X (binaryOp .Mult) zqo:=⟨λpins s σ H x y v u a b Q I rx ry ra rb q=>by
 cases a with
 |int i=>cases b with
  |int j=>exact(OpD.ii zpv).run pins s σ H x y v u _ _ Q I rx ry ra rb q
  |_=>exact q.elim
 |list i=>cases b with
  |int j=>exact f_rep.opD.run pins s σ H x y v u _ _ Q I rx ry ra rb q
  |_=>exact q.elim
 |_=>exact q.elim⟩
def gEq:DOp
 |.int i,.int j,Q=>Q (.bool (decide (i=j)))
 |.str i,.str j,Q=>Q (.bool (decide (i=j)))
 |.bool i,.bool j,Q=>Q (.bool (decide (i=j)))
 |a,b,Q=>Lay a/\Lay b/\Q (.bool (PyData.eqv a b))
def gNe:DOp
 |.int i,.int j,Q=>Q (.bool (!decide (i=j)))
 |.str i,.str j,Q=>Q (.bool (!decide (i=j)))
 |.bool i,.bool j,Q=>Q (.bool (!decide (i=j)))
 |a,b,Q=>Lay a/\Lay b/\Q (.bool (!PyData.eqv a b))
theorem zti(hu:X.A.units+64<cLine):OpD X (compareOp .Eq) (λa b Q=>Lay a/\Lay b/\Q (.bool (PyData.eqv a b))):=⟨λpins s σ H x y v u a b Q I rx ry ra rb q=>by
 obtain⟨as,e1⟩:=ra.reads I rx q.1.can;obtain⟨bs,e2⟩:=rb.reads I ry q.2.1.can;exact eq_dataH e1 e2 q.1 q.2.1 hu ⟨.bl _,H,_,I,rfl,Same.refl _,.bl,q.2.2⟩⟩
theorem ztj(hu:X.A.units+64<cLine):OpD X (compareOp .NotEq) (λa b Q=>Lay a/\Lay b/\Q (.bool (!PyData.eqv a b))):=⟨λpins s σ H x y v u a b Q I rx ry ra rb q=>by
 obtain⟨as,e1⟩:=ra.reads I rx q.1.can;obtain⟨bs,e2⟩:=rb.reads I ry q.2.1.can;exact ne_dataH e1 e2 q.1 q.2.1 hu ⟨.bl _,H,_,I,rfl,Same.refl _,.bl,q.2.2⟩⟩
theorem zo1{f:D->D->Bool}(neg:Bool)(op:CmpOp)(h:OpR X (compareOp op) (λx y H Q=>zpy x y=true/\Q (.bl (if neg then !decide (x=y) else decide (x=y))) H)):
  OpD X (compareOp op) (λa b Q=>match a,b with
   |.int i,.int j=>Q (.bool (if neg then !decide (i=j) else decide (i=j)))
   |.str i,.str j=>Q (.bool (if neg then !decide (i=j) else decide (i=j)))
   |.bool i,.bool j=>Q (.bool (if neg then !decide (i=j) else decide (i=j)))
   |_,_=>False):=OpD.of h λx y H a b Q ra rb q=>by
 cases a with
 |int i=>cases b with
  |int j=>
   cases ra.int;cases rb.int;have e:decide (V.int i=V.int j)=decide (i=j):=by rw[Bool.eq_iff_iff];simp
   rw[e];exact⟨rfl,.bool _,Same.refl _,.bl,q⟩
  |_=>exact q.elim
 |str i=>cases b with
  |str j=>
   cases ra.str;cases rb.str;have e:decide (V.str i=V.str j)=decide (i=j):=by rw[Bool.eq_iff_iff];simp
   rw[e];exact⟨rfl,.bool _,Same.refl _,.bl,q⟩
  |_=>exact q.elim
 |bool i=>cases b with
  |bool j=>
   cases ra.bool;cases rb.bool;have e:decide (V.bl i=V.bl j)=decide (i=j):=by rw[Bool.eq_iff_iff];simp
   rw[e];exact⟨rfl,.bool _,Same.refl _,.bl,q⟩
  |_=>exact q.elim
 |_=>exact q.elim
theorem ziv{k:Nat}(hr:Room k X.A):OpD X (compareOp .Eq) gEq:=⟨λpins s σ H x y v u a b Q I rx ry ra rb q=>by
 have G:=(zti (X:=X) hr.units).run pins s σ H x y v u a b Q I rx ry ra rb;have S:=(zo1 (X:=X) (f:=λ_ _=>true) false .Eq zot).run pins s σ H x y v u a b Q I rx ry ra rb
 cases a <;> cases b <;> first|exact S q|exact G q⟩
theorem zbk{k:Nat}(hr:Room k X.A):OpD X (compareOp .NotEq) gNe:=⟨λpins s σ H x y v u a b Q I rx ry ra rb q=>by
 have G:=(ztj (X:=X) hr.units).run pins s σ H x y v u a b Q I rx ry ra rb;have S:=(zo1 (X:=X) (f:=λ_ _=>true) true .NotEq zst).run pins s σ H x y v u a b Q I rx ry ra rb
 cases a <;> cases b <;> first|exact S q|exact G q⟩
def ko:D->Bool
 |.none=>true
 |_=>false
def zqp:DOp:=λa b Q=>match b with
 |.none=>Q (.bool (ko a))
 |_=>False
def zki:DOp:=λa b Q=>match b with
 |.none=>Q (.bool (!ko a))
 |_=>False
theorem zbl{K:PySem.W.Frag}{H:Hp}{d:D}{v:V}(h:RepT K H d v):decide (v=.non)=ko d:=by
 rcases h with h |⟨xs,rfl,a,vs,rfl,_⟩
 ·cases h <;> rfl
 ·rfl
theorem ztk:OpD X (compareOp .Is) zqp:=OpD.of zpz λx y H a b Q ra rb q=>by
 cases b with
 |none=>cases rb.none;refine⟨rfl,.bool (ko a),Same.refl _,?_,q⟩;rw[zbl ra];exact .bl
 |_=>exact q.elim
theorem zqq:OpD X (compareOp .IsNot) zki:=OpD.of zmp λx y H a b Q ra rb q=>by
 cases b with
 |none=>cases rb.none;refine⟨rfl,.bool (!ko a),Same.refl _,?_,q⟩;rw[zbl ra];exact .bl
 |_=>exact q.elim
def inD(x:D)(ys:List D):Bool:=ys.any λy=>PyData.eqv y x
def gIn(neg:Bool):DOp:=λa b Q=>match b with
 |.list ys=>Lay a/\Lay (.list ys)/\Q (.bool (if neg then !inD a ys else inD a ys))
 |.tuple ys=>Lay a/\Lay (.tuple ys)/\Q (.bool (if neg then !inD a ys else inD a ys))
 |_=>False
theorem Lay.all{xs:List D}(h:Lay (.list xs)):PyData.canLayAll0 xs=true:=by simpa[PyData.canLay0]using h.can
theorem Lay.allT{xs:List D}(h:Lay (.tuple xs)):PyData.canLayAll0 xs=true:=by simpa[PyData.canLay0]using h.can
theorem ztl{k:Nat}(hr:Room k X.A):OpD X (compareOp .In) (gIn false):=⟨λpins s σ H x y v u a b Q I rx ry ra rb q=>by
 have hu:=hr.un
 cases b with
 |list ys=>
  obtain⟨as,e1⟩:=ra.reads I rx q.1.can;obtain⟨bs,e2⟩:=rb.reads I ry q.2.1.can;have:=q.1.deep;exact SeqAt.in_list_reads e2 e1 q.2.1.all q.1.can (by omega) ⟨.bl _,H,_,I,rfl,Same.refl _,.bl,q.2.2⟩
 |tuple ys=>
  obtain⟨as,e1⟩:=ra.reads I rx q.1.can;obtain⟨bs,e2⟩:=rb.reads I ry q.2.1.can;have:=q.1.deep;exact SeqAt.in_tuple_reads e2 e1 q.2.1.allT q.1.can (by omega) ⟨.bl _,H,_,I,rfl,Same.refl _,.bl,q.2.2⟩
 |_=>exact q.elim⟩
end
structure CallD(X:Cx)(f:Value)(g:List D->(D->Prop)->Prop):Prop where
 run:∀(pins:List (Addr×Obj)) (s:Shared) (σ:St) (H:Hp) (vs:List V) (us:List Value) (ds:List D) (Q:D->Prop),Inv X pins σ H s->Vals vs us->RepTs X.K H ds vs->g ds Q->wpAny (model X.prog X.w) X.A (call f us) (DEnd X pins σ H Q) X.xe s
structure CallF(X:Cx)(f:Value)(g:List D->(List D->Prop)->Prop):Prop where
 run:∀(pins:List (Addr×Obj)) (s:Shared) (σ:St) (H:Hp) (vs:List V) (us:List Value) (ds:List D) (Q:List D->Prop),Inv X pins σ H s->Vals vs us->RepTs X.K H ds vs->g ds Q->wpAny (model X.prog X.w) X.A (call f us) (zhj X pins σ H Q) X.xe s
def dCB(g:List D->(D->Prop)->Prop)(t:DTF):DTE:=λσ Q=>t σ λds=>g ds Q
section
variable {X:Cx}{f:Value}{g:List D->(D->Prop)->Prop}{gf:List D->(List D->Prop)->Prop}{e:Expr}{es:List Expr}{t:DTF}{x:Str}{p pos:Pos}
theorem CallD.of{r:List V->Hp->VK->Prop}(h:wd X f r)(k:∀vs H ds Q,RepTs X.K H ds vs->g ds Q->r vs H (λv H'=>∃d,Same H H'/\Rep X.K H' d v/\Q d)):CallD X f g :=
 ⟨λpins s σ H vs us ds Q I rv rd q=>thn (h pins s σ H vs us _ I rv (k vs H ds Q rd q)) λw s' zq93=>by obtain⟨z,H',I',rz,d,sm,rp,qd⟩:=zq93;exact⟨z,H',d,I',rz,sm,rp,qd⟩⟩
theorem CallF.of{r:List V->Hp->VK->Prop}(h:wd X f r)(k:∀vs H ds Q,RepTs X.K H ds vs->gf ds Q->r vs H (λv H'=>∃p vs xs,v=.ref p/\Same H H'/\H p=none/\H' p=some (.lst vs)/\Reps X.K H' xs vs/\Q xs)):CallF X f gf :=
 ⟨λpins s σ H vs us ds Q I rv rd q=>thn (h pins s σ H vs us _ I rv (k vs H ds Q rd q)) λw s' zq93=>by obtain⟨z,H',I',rz,p,ws,xs,ez,sm,n,e,rp,qd⟩:=zq93;exact⟨p,H',ws,xs,by subst ez;exact rz,I',sm,n,e,rp,qd⟩⟩
theorem CallD.cr(h:CallD X f g):wd X f (λvs H Q=>∃ds QD,RepTs X.K H ds vs/\g ds QD/\∀v H' d,Same H H'->Rep X.K H' d v->QD d->Q v H') :=
 λpins s σ H vs us Q I rv zq2=>by obtain⟨ds,QD,rd,q,k⟩:=zq2;exact thn (h.run pins s σ H vs us ds QD I rv rd q) λw s' zq0=>by obtain⟨z,H',d,I',rz,sm,rp,qd⟩:=zq0;exact⟨z,H',I',rz,k z H' d sm rp qd⟩
theorem zy{id:String}(hc:CallD X (.builtin id) g)(hg:Gl X x)(hm:X.mg x=none)(hv:bootBuiltins x=some (.builtin id))(ha:DAv X (e::es) t)(hn:x ≠ "__name__" := by decide)(hdb:(x ==("__debug__" : Str))=false:=by decide)
  (he:starEach (e::es) X.env=(false,eval e X.env)::starEach es X.env:=by rfl) (hpl:(backTo pos (starEach es X.env)).any (·.1)=false:=by rfl):DE X (.Call (.Name x p) (e::es) [] pos) (dCB g t) :=
 DE.of (zbc hc.cr hg hm hv ha.pa hn hdb he hpl) λσ H H₀ σD QD ok q=>⟨H₀,σD,_,ok,q,λvs H1 ds s1 r1 q1=>⟨ds,_,r1,q1,λv H' d s2 rp qd=>⟨d,s1.trans s2,rp,qd⟩⟩⟩
theorem zcz{id:String}(hc:CallD X (.type id) g)(hg:Gl X x)(hm:X.mg x=none)(hv:bootBuiltins x=some (.type id))(ha:DAv X (e::es) t)(hn:x ≠ "__name__" := by decide)(hdb:(x ==("__debug__" : Str))=false:=by decide)
  (he:starEach (e::es) X.env=(false,eval e X.env)::starEach es X.env:=by rfl) (hpl:(backTo pos (starEach es X.env)).any (·.1)=false:=by rfl):DE X (.Call (.Name x p) (e::es) [] pos) (dCB g t) :=
 DE.of (zij hc.cr hg hm hv ha.pa hn hdb he hpl) λσ H H₀ σD QD ok q=>⟨H₀,σD,_,ok,q,λvs H1 ds s1 r1 q1=>⟨ds,_,r1,q1,λv H' d s2 rp qd=>⟨d,s1.trans s2,rp,qd⟩⟩⟩
theorem RepTs.one{K:PySem.W.Frag}{H:Hp}{d:D}{vs:List V}(h:RepTs K H [d] vs):∃v,vs = [v]/\RepT K H d v:=by
 cases h with
 |cons r t=>cases t;exact⟨_,rfl,r⟩
theorem RepTs.two{K:PySem.W.Frag}{H:Hp}{d e:D}{vs:List V}(h:RepTs K H [d,e] vs):∃v w,vs = [v,w]/\RepT K H d v/\RepT K H e w:=by
 cases h with
 |cons r t=>cases t with
  |cons r2 t=>cases t;exact⟨_,_,rfl,r,r2⟩
def zqr:List D->(D->Prop)->Prop
 |[.str x],Q=>x.length<=sizeLine/\Q (.int x.length)
 |[.list xs],Q=>Q (.int xs.length)
 |[.tuple xs],Q=>Q (.int xs.length)
 |_,_=>False
theorem w4:CallD X (.builtin "len") zqr:=CallD.of zjr λvs H ds Q rd q=>by
 match ds,q,rd with
 |[.str x],q,rd=>
  obtain⟨v,rfl,r⟩:=rd.one
  cases r.str;exact⟨_,x.length,rfl,⟨q.1,rfl⟩,_,Same.refl _,.int,q.2⟩
 |[.list xs],q,rd=>
  obtain⟨v,rfl,r⟩:=rd.one;obtain⟨a,vs,rfl,h,r⟩:=r.list.sq;exact⟨_,xs.length,rfl,.inl ⟨vs,h,r.length⟩,_,Same.refl _,.int,q⟩
 |[.tuple xs],q,rd=>
  obtain⟨v,rfl,r⟩:=rd.one;obtain⟨a,vs,rfl,h,r⟩:=r.tuple;exact⟨_,xs.length,rfl,.inr ⟨vs,h,r.length⟩,_,Same.refl _,.int,q⟩
def zqs:List D->(D->Prop)->Prop
 |[.int i,.int j],Q=>Q (.int (min i j))
 |_,_=>False
def zqt:List D->(D->Prop)->Prop
 |[.int i,.int j],Q=>Q (.int (max i j))
 |_,_=>False
theorem zo2(hc:X.calm=true):CallD X (.builtin "min") zqs:=CallD.of (zie hc) λvs H ds Q rd q=>by
 match ds,q,rd with
 |[.int i,.int j],q,rd=>
  obtain⟨v,w,rfl,r1,r2⟩:=rd.two
  cases r1.int
  cases r2.int;refine⟨i,j,rfl,_,Same.refl _,.int,?_⟩;have e:(if j<i then j else i)=min i j:=by split <;> omega
  rw[e];exact q
theorem zo3(hc:X.calm=true):CallD X (.builtin "max") zqt:=CallD.of (zid hc) λvs H ds Q rd q=>by
 match ds,q,rd with
 |[.int i,.int j],q,rd=>
  obtain⟨v,w,rfl,r1,r2⟩:=rd.two
  cases r1.int
  cases r2.int;refine⟨i,j,rfl,_,Same.refl _,.int,?_⟩;have e:(if j > i then j else i)=max i j:=by split <;> omega
  rw[e];exact q
def zqu:List D->(D->Prop)->Prop
 |[.int i],Q=>Q (.int (if i<0 then -i else i))
 |_,_=>False
theorem ztm:CallD X (.builtin "abs") zqu:=CallD.of zjq λvs H ds Q rd q=>by
 match ds,q,rd with
 |[.int i],q,rd=>
  obtain⟨v,rfl,r⟩:=rd.one
  cases r.int;exact⟨i,rfl,_,Same.refl _,.int,q⟩
def zqv:List D->(D->Prop)->Prop
 |[.int i],Q=>Q (.int i)
 |[.bool b],Q=>Q (.int (if b then 1 else 0))
 |_,_=>False
theorem ztn:CallD X (.type "int") zqv:=CallD.of zif λvs H ds Q rd q=>by
 match ds,q,rd with
 |[.int i],q,rd=>
  obtain⟨v,rfl,r⟩:=rd.one
  cases r.int;exact .inl ⟨i,rfl,_,Same.refl _,.int,q⟩
 |[.bool i],q,rd=>
  obtain⟨v,rfl,r⟩:=rd.one
  cases r.bool;exact .inr ⟨i,rfl,_,Same.refl _,.int,q⟩
def zge:List D->(D->Prop)->Prop
 |[.list xs],Q=>Q (.tuple xs)
 |[.tuple xs],Q=>Q (.tuple xs)
 |_,_=>False
theorem znc:CallD X (.type "tuple") zge:=CallD.of zb9 λvs H ds Q rd q=>by
 match ds,q,rd with
 |[.list xs],q,rd=>
  obtain⟨v,rfl,r⟩:=rd.one;obtain⟨a,vs,rfl,h,r⟩:=r.list.sq;exact⟨a,vs,rfl,.inl ⟨h,λl hl=>⟨_,zw hl _,.tup (SqT.of zl) (r.same (zw hl _)),q⟩⟩⟩
 |[.tuple xs],q,rd=>
  obtain⟨v,rfl,r⟩:=rd.one;obtain⟨a,vs,rfl,h,r⟩:=r.tuple;exact⟨a,vs,rfl,.inr ⟨h,_,Same.refl _,.tup h r,q⟩⟩
def v7:List D->Option (List Bool)
 |[]=>some []
 |.bool i::r=>(v7 r).map (i :: ·)
 |_::_=>none
theorem kr(ns:List Bool):v7 (ns.map PyData.bool)=some ns:=by
 induction ns with
 |nil=>rfl
 |cons n ns ih=>simp[v7,ih]
theorem zbm{K:PySem.W.Frag}{H:Hp}:∀{xs:List D}{vs:List V}{ns:List Bool},Reps K H xs vs->v7 xs=some ns->vs=ns.map V.bl
 |[],_,ns,r,e=>by cases r;simp[v7]at e;subst e;rfl
 |x::xs,_,ns,r,e=>by
  cases r with
  |cons r t=>
   cases x with
   |bool i=>
    simp only[v7,Option.map_eq_some_iff]at e;obtain⟨ms,e1,rfl⟩:=e
    cases r;rw[zbm t e1];rfl
   |_=>simp[v7]at e
def zqw:List D->(D->Prop)->Prop
 |[.list xs],Q=>∃ns,v7 xs=some ns/\Q (.bool (ns.all id))
 |_,_=>False
theorem zkj(hc:X.calm=true):CallD X (.builtin "all") zqw:=CallD.of (zj4 hc) λvs H ds Q rd q=>by
 match ds,q,rd with
 |[.list xs],q,rd=>
  obtain⟨v,rfl,r⟩:=rd.one;obtain⟨a,vs,rfl,h,r⟩:=r.list.sq;obtain⟨ns,e,q⟩:=q
  cases zbm r e;exact⟨a,ns,rfl,h,_,Same.refl _,.bl,q⟩
def isD:String->D->Bool
 | "int",.int _=>true
 | "int",.bool _=>true
 | "bool",.bool _=>true
 | "str",.str _=>true
 | "list",.list _=>true
 | "tuple",.tuple _=>true
 | "dict",.dict _=>true
 |_,_=>false
def tyD:D->String
 |.none=> "NoneType"
 |.bool _=> "bool"
 |.int _=> "int"
 |.str _=> "str"
 |.list _=> "list"
 |.tuple _=> "tuple"
 |.dict _=> "dict"
theorem zgf{pins:List (Addr×Obj)}{σ:St}{H:Hp}{s:Shared}{A:Around}{E:Value->Shared->Prop}{Q:Value->Shared->Prop}{c:Value}{b:Bool}{d:D}{v:V}{u:Value}(I:Inv X pins σ H s)(rp:RepT X.K H d v)(ru:RelV v u)(e:PySem.W.kitOne X.K (.type (tyD d)) c=some b)
  (h:∀tk,Q (.bool b) { s with toks:=tk }):wpAny (model X.prog X.w) A (call (.builtin "isinstance") [u,c]) Q E s:=by
 rcases rp with rp |⟨xs,rfl,a,vs,rfl,hr,_⟩
 ·cases rp with
  |non=>cases ru;exact PySem.W.kia_one PySem.W.kitx_none I.kIn True.intro e (λz=>nomatch z) h
  |bl=>cases ru;exact PySem.W.kia_one PySem.W.kitx_bool I.kIn True.intro e (λz=>nomatch z) h
  |int=>obtain⟨t,rfl⟩:=ru;exact PySem.W.kia_one PySem.W.kitx_int I.kIn True.intro e (λz=>nomatch z) h
  |str=>obtain⟨t,rfl⟩:=ru;exact PySem.W.kia_one PySem.W.kitx_str I.kIn True.intro e (λz=>nomatch z) h
  |tup q r=>
   cases ru;obtain⟨its,_,⟨o,h1,h2,_⟩,_⟩:=I.tuple q;exact PySem.W.kia_one PySem.W.kitx_tuple I.kIn ⟨o,h1,h2⟩ e (λz=>nomatch z) h
  |lst q r=>
   cases ru;obtain⟨_,_,_,n,_,h1⟩:=I.hok _ _ q;exact PySem.W.kia_one PySem.W.kitx_list I.kIn ⟨_,h1,rfl⟩ e (λz=>nomatch z) h
  |dic q r=>
   cases ru;obtain⟨_,_,_,vs,_,o,es,ep,h1,h2,_⟩:=I.hok _ _ q;exact PySem.W.kia_one PySem.W.kitx_dict I.kIn ⟨o,h1,h2.1⟩ e (λz=>nomatch z) h
 ·cases ru;obtain⟨_,_,n,_,h1⟩:=hr.ok I.hok;exact PySem.W.kia_one PySem.W.kitx_list I.kIn ⟨_,h1,rfl⟩ e (λz=>nomatch z) h
def dIs(n:String)(t:DTE):DTE:=λσ Q=>t σ λd=>Q (.bool (isD n d))
theorem j5{n:String}{ta:DTE}{x2:Str}{p2:Pos}(hk:∀d:D,PySem.W.kitOne X.K (.type (tyD d)) (.type n)=some (isD n d))(hg:Gl X "isinstance")(hm:X.mg "isinstance" = none)(hv:bootBuiltins "isinstance" = some (.builtin "isinstance"))(ha:DV X e ta)
  (hg2:Gl X x2) (hm2:X.mg x2=none) (hv2:bootBuiltins x2=some (.type n)) (hn2:x2 ≠ "__name__" := by decide) (hdb2:(x2 ==("__debug__" : Str))=false:=by decide)
  (he:starEach (e :: [.Name x2 p2]) X.env=(false,eval e X.env)::starEach [.Name x2 p2] X.env:=by rfl) (he2:starEach [.Name x2 p2] X.env=(false,eval (.Name x2 p2) X.env)::starEach [] X.env:=by rfl) (hpl:(backTo pos (starEach [.Name x2 p2] X.env)).any (·.1)=false:=by rfl):DE X (.Call (.Name "isinstance" p) [e,.Name x2 p2] [] pos) (dIs n ta):=by
 have hc:wd X (.builtin "isinstance") (λvs H Q=>∃d v,vs = [v,.ty n]/\RepT X.K H d v/\Q (.bl (isD n d)) H):=λpins s σ H xs us Q I rv zq28=>by
  obtain⟨d,v,e,r,q⟩:=zq28;subst e;obtain⟨u,w,rfl,r1,r2⟩:=rv.two
  cases r2;exact zgf I r r1 (hk d) λtk=>⟨.bl (isD n d),H,I.tok tk,rfl,q⟩
 refine DE.of (zbc hc hg hm hv (yu ha.pe (yu (zml (v:=.ty n) hg2 hm2 hv2 rfl hn2 hdb2) xy he2) he) (by decide) (by decide) he hpl) λσ H H₀ σD QD ok q=>?_;exact⟨H₀,σD,_,ok,q,λv H1 d s1 r1 q1=>⟨d,v,rfl,r1,_,s1,.bl,q1⟩⟩
theorem zto{K:PySem.W.Frag}(d:D):PySem.W.kitOne K (.type (tyD d)) (.type "int")=some (isD "int" d):=by cases d <;> rfl
theorem zqx{K:PySem.W.Frag}(d:D):PySem.W.kitOne K (.type (tyD d)) (.type "bool")=some (isD "bool" d):=by cases d <;> rfl
theorem ztp{K:PySem.W.Frag}(d:D):PySem.W.kitOne K (.type (tyD d)) (.type "str")=some (isD "str" d):=by cases d <;> rfl
theorem zdk{K:PySem.W.Frag}(d:D):PySem.W.kitOne K (.type (tyD d)) (.type "tuple")=some (isD "tuple" d):=by cases d <;> rfl
variable {a b:Expr}{ta tb:DTE}
def gIx:DOp
 |.list xs,.int i,Q=>∃d,atI xs i=some d/\Q d
 |.tuple xs,.int i,Q=>∃d,atI xs i=some d/\Q d
 |.str x,.int i,Q=>x.length<=sizeLine/\∃c,atI x.cps.toList i=some c/\Q (.str ⟨#[c]⟩)
 |_,_,_=>False
theorem zhl{K:PySem.W.Frag}{H:Hp}{xs:List D}{vs:List V}{i:Int}{d:D}(r:Reps K H xs vs)(h:atI xs i=some d):∃v,atI vs i=some v/\Rep K H d v:=by
 unfold atI at h ⊢;rw[<-r.length]
 cases e:ixN xs.length i with
 |none=>rw[e]at h;cases h
 |some j=>
  rw[e]at h;exact r.get h
theorem yc(ha:DV X a ta)(hb:DE X b tb)(hs:zdd b):DE X (.Subscript a b pos) (dOp gIx ta tb) :=
 DE.of (zao zp6 ha.pe hb.pe hs) λσ H H₀ σD QD ok q=>⟨H₀,σD,_,ok,q,λv H1 d s1 r1 q1=>⟨H₀,σD,_,ok.after s1,q1,λw H2 d2 s2 r2 q2=>by
  have r1:=r1.same s2;have sm:=s1.trans s2
  cases d2 with
  |int i=>
   cases r2
   cases d with
   |list xs=>
    obtain⟨l,vs,rfl,hl,r⟩:=r1.list.sq;obtain⟨d,e,q⟩:=q2;obtain⟨x,e1,e2⟩:=zhl r e;exact .inl ⟨l,vs,i,x,rfl,rfl,hl,e1,d,sm,e2,q⟩
   |tuple xs=>
    obtain⟨l,vs,rfl,hl,r⟩:=r1.tuple;obtain⟨d,e,q⟩:=q2;obtain⟨x,e1,e2⟩:=zhl r e;exact .inr (.inl ⟨l,vs,i,x,rfl,rfl,hl,e1,d,sm,e2,q⟩)
   |str x=>
    cases r1.str;obtain⟨hz,c,e,q⟩:=q2;exact .inr (.inr ⟨x,i,c,rfl,rfl,hz,e,_,sm,.str,q⟩)
   |_=>exact q2.elim
  |_=>cases d <;> exact q2.elim⟩⟩
abbrev DTO:=DSt->(Option Int->Prop)->Prop
structure DO(X:Cx)(e:Option Expr)(t:DTO):Prop where
 po:PO X e (λσ H Q=>∃H₀ σD QD,DOk X.K H₀ H σD σ/\t σD QD/\∀o H',Same H H'->QD o->Q o H')
def zdl:DTO:=λ_ Q=>Q none
def zkk(t:DTE):DTO:=λσ Q=>t σ λd=>match d with
 |.int i=>Q (some i)
 |_=>False
theorem qx:DO X none zdl:=⟨λpins s σ H Q I zq40=>by obtain⟨H₀,σD,QD,ok,q,k⟩:=zq40;exact zmx pins s σ H Q I (k none H (Same.refl _) q)⟩
theorem we(h:DE X a ta):DO X (some a) (zkk ta):=⟨λpins s σ H Q I ⟨H₀,σD,QD,ok,q,k⟩=>zmy h.pe pins s σ H Q I ⟨H₀,σD,_,ok,q,λv H1 d s1 r1 q1=>by
 cases d with
 |int i=>cases r1;exact⟨i,rfl,k _ _ s1 q1⟩
 |_=>exact q1.elim⟩⟩
def zbn(xs:List D)(lo hi:Option Int):List D:=(xs.drop (HT.sIx xs.length 0 lo)).take (HT.sIx xs.length xs.length hi-HT.sIx xs.length 0 lo)
theorem Reps.cut{K:PySem.W.Frag}{H:Hp}{xs:List D}{vs:List V}(r:Reps K H xs vs)(lo hi:Option Int):Reps K H (zbn xs lo hi) (zik vs lo hi):=by
 unfold zbn zik;rw[<-r.length];exact(r.drop _).take _
variable {lo hi:Option Expr}{tl th:DTO}{p2:Pos}
def zdm(i:Nat)(tl th:DTO):DTF:=λσ Q=>match σ[i]? with
 |some (some (.scr ns))=>tl σ λl=>th σ λu=>Q ((zbn (ns.map PyData.int) l u))
 |_=>False
theorem zqy(i:Nat){x:Str}{pos':Pos}(hl:DO X lo tl)(hu:DO X hi th)(hN:X.N[i]?=some x:=by rfl)(hv:Vis X.env.scope x:=by first|exact Or.inl rfl|exact Or.inr (Or.inl rfl)|exact Or.inr (Or.inr rfl))(hd:(x ==("__debug__" : Str))=false:=by decide)
  (hcd:(x ==("__classdict__" : Str))=false:=by decide):DF X (.Subscript (.Name x pos') (.Slice lo hi none p2) pos) (zdm i tl th) :=
 DF.of (zen zmz (yp (i:=i) hN hv hd hcd) hl.po hu.po) λσ H H₀ σD QD ok q=>by
  unfold zdm at q
  split at q
  ·next ns e=>
   obtain⟨b,e1,hb⟩:=ok.scr e;exact⟨_,e1,H₀,σD,_,ok,q,λl H2 s2 q2=>⟨H₀,σD,_,ok.after s2,q2,λu H3 s3 q3=>⟨b,_,rfl,s3.seq (s2.seq hb),λp hp=>⟨p,_,_,rfl,(s2.trans s3).trans (zw hp _),(s2.trans s3).free hp,zl,Reps.ints.cut l u,q3⟩⟩⟩⟩
  ·exact q.elim
def za2(i:Nat):DTE:=λσ Q=>match σ[i]? with
 |some (some (.scr ns))=>Q (.int ns.length)
 |_=>False
theorem ziw(i:Nat){x:Str}{pos':Pos}(hg:Gl X "len")(hm:X.mg "len" = none)(hN:X.N[i]?=some x:=by rfl)(hv:Vis X.env.scope x:=by first|exact Or.inl rfl|exact Or.inr (Or.inl rfl)|exact Or.inr (Or.inr rfl))(hd:(x ==("__debug__" : Str))=false:=by decide)
  (hcd:(x ==("__classdict__" : Str))=false:=by decide):DE X (.Call (.Name "len" p) [.Name x pos'] [] pos) (za2 i) :=
 DE.of (zbc zdf hg hm PySem.boot_len (yu (yp (i:=i) hN hv hd hcd) xy)) λσ H H₀ σD QD ok q=>by
  unfold za2 at q
  split at q
  ·next ns e=>
   obtain⟨b,e1,hb⟩:=ok.scr e;exact⟨_,e1,b,_,rfl,.inl hb,_,Same.refl _,.int,by rw[List.length_map];exact q⟩
  ·exact q.elim
def zdn(i:Nat)(tb:DTE):DTE:=λσ Q=>match σ[i]? with
 |some (some (.scr ns))=>tb σ λd=>match d with
  |.int k=>∃n,atI ns k=some n/\Q (.int n)
  |_=>False
 |_=>False
theorem znd{α β:Type}(f:α->β)(xs:List α)(i:Int):atI (xs.map f) i=(atI xs i).map f:=by
 unfold atI;rw[List.length_map]
 cases ixN xs.length i with
 |none=>rfl
 |some j=>simp
theorem zkl(i:Nat){x:Str}{pos':Pos}(hb:DE X b tb)(hs:zdd b)(hN:X.N[i]?=some x:=by rfl)(hv:Vis X.env.scope x:=by first|exact Or.inl rfl|exact Or.inr (Or.inl rfl)|exact Or.inr (Or.inr rfl))(hd:(x ==("__debug__" : Str))=false:=by decide)
  (hcd:(x ==("__classdict__" : Str))=false:=by decide):DE X (.Subscript (.Name x pos') b pos) (zdn i tb) :=
 DE.of (zao ix_list (yp (i:=i) hN hv hd hcd) hb.pe hs) λσ H H₀ σD QD ok q=>by
  unfold zdn at q
  split at q
  ·next ns e=>
   obtain⟨b,e1,hb⟩:=ok.scr e;refine⟨_,e1,H₀,σD,_,ok,q,λw H2 d2 s2 r2 q2=>?_⟩
   cases d2 with
   |int k=>
    cases r2;obtain⟨n,en,q⟩:=q2;exact⟨b,_,k,.int n,rfl,rfl,s2.seq hb,by rw[znd,en];rfl,_,s2,.int,q⟩
   |_=>exact q2.elim
  ·exact q.elim
end
structure ItOk(K:PySem.W.Frag)(Kp:Hp->Hp->Prop)(J:It)(H1:Hp)(ds:List D):Prop where
 go:∀H i d,Kp H1 H->ds[i]?=some d->J.go i H/\∀x H',J.yld i H x H'->Same H H'/\Rep K H' d x
 stop:∀H,Kp H1 H->J.stop ds.length H
theorem ItOk.weak{K:PySem.W.Frag}{J:It}{H1:Hp}{ds:List D}(h:ItOk K Pers J H1 ds):ItOk K Same J H1 ds:=⟨λH i d s=>h.go H i d s.pers,λH s=>h.stop H s.pers⟩
def cnI(K:PySem.W.Frag)(Kp:Hp->Hp->Prop)(t:DTF):TI:=λσ H R=>∃H₀ σD QD,DOk K H₀ H σD σ/\t σD QD/\∀J H1 ds,Same H H1->ItOk K Kp J H1 ds->QD ds->R J H1
structure DI(X:Cx)(tg iter:Expr)(t:DTF):Prop where
 pi:PI X tg iter (cnI X.K Pers t)
structure DIw(X:Cx)(tg iter:Expr)(t:DTF):Prop where
 pi:PI X tg iter (cnI X.K Same t)
section
variable {X:Cx}{tg iter e:Expr}{t:DTF}{te:DTE}{p pos:Pos}
theorem DI.w(h:DI X tg iter t):DIw X tg iter t:=⟨λpins s σ H R I zq56=>by obtain⟨H₀,σD,QD,ok,q,k⟩:=zq56;exact h.pi pins s σ H R I ⟨H₀,σD,QD,ok,q,λJ H1 ds s1 o qd=>k J H1 ds s1 o.weak qd⟩⟩
theorem zkm{l:Expr}{tl:TE}(hl:PE X l tl):PI X tg l (λσ H R=>tl σ H λx H1=>(∃a xs,x=.ref a/\SqL X.K H1 a xs/\R (Itl X.K a) H1)\/∃a xs,x=.ref a/\SqT X.K H1 a xs/\R (Itt X.K a) H1):=by
 intro pins s σ H R I h;refine thn (hl pins s σ H _ I h) λv s1 zr22=>?_;obtain⟨x,H1,I1,r1,q1⟩:=zr22;rcases q1 with⟨a,xs,e,hq,q⟩ |⟨a,xs,e,hq,q⟩
 ·subst e
  cases r1;obtain⟨its,rv,p,hz⟩:=I1.list hq;refine wpAny_pyIter_list p.isList ?_;refine⟨s1.heap.objs.size,[s1.heap.objs.size],_,_,H1,rfl,I1.kept (t':=s1.toks) λb o e=>Heap.get?_push_of_some _ e,zia a _,⟨_,Heap.get?_push_size _ rfl,rfl,rfl⟩,λb hb=>?_,q⟩;have e:b=s1.heap.objs.size:=by simpa using hb
  subst e;exact I1.fpOk (Nat.le_refl _) (I1.hok.fresh (Nat.le_refl _))
 ·subst e
  cases r1;obtain⟨its,rv,p,hz⟩:=I1.tuple hq;refine wpAny_pyIter_tuple (show s1.heap.IsTuple a its.toArray from p) ?_;refine⟨s1.heap.objs.size,[s1.heap.objs.size],_,_,H1,rfl,I1.kept (t':=s1.toks) λb o e=>Heap.get?_push_of_some _ e,zfx a _,⟨_,Heap.get?_push_size _ rfl,rfl,rfl⟩,λb hb=>?_,q⟩;have e:b=s1.heap.objs.size:=by simpa using hb
  subst e;exact I1.fpOk (Nat.le_refl _) (I1.hok.fresh (Nat.le_refl _))
def zhm(te:DTE):DTF:=λσ Q=>te σ λd=>match d with
 |.list xs=>Q xs
 |.tuple xs=>Q xs
 |_=>False
theorem zkn{K:PySem.W.Frag}{Kp:Hp->Hp->Prop}{H1:Hp}{a:Addr}{xs:List D}{vs:List V}(kp:∀H,Kp H1 H->SqL K H a vs/\Reps K H xs vs):ItOk K Kp (Itl K a) H1 xs where
 go:=λH i d k e=>by
  obtain⟨hs,r⟩:=kp H k;obtain⟨v,e1,r1⟩:=r.get e;refine⟨⟨vs,v,hs,e1⟩,λx H' y=>?_⟩;obtain⟨rfl,y⟩:=y;have:=y vs hs;rw[e1]at this
  cases this;exact⟨Same.refl _,r1⟩
 stop:=λH k=>by
  obtain⟨hs,r⟩:=kp H k;exact⟨vs,hs,by rw[r.length];exact Nat.le_refl _⟩
theorem zko{K:PySem.W.Frag}{Kp:Hp->Hp->Prop}{H1:Hp}{a:Addr}{xs:List D}{vs:List V}(kp:∀H,Kp H1 H->SqT K H a vs/\Reps K H xs vs):ItOk K Kp (Itt K a) H1 xs where
 go:=λH i d k e=>by
  obtain⟨hs,r⟩:=kp H k;obtain⟨v,e1,r1⟩:=r.get e;refine⟨⟨vs,v,hs,e1⟩,λx H' y=>?_⟩;obtain⟨rfl,y⟩:=y;have:=y vs hs;rw[e1]at this
  cases this;exact⟨Same.refl _,r1⟩
 stop:=λH k=>by
  obtain⟨hs,r⟩:=kp H k;exact⟨vs,hs,by rw[r.length];exact Nat.le_refl _⟩
theorem Pers.sqF{K:PySem.W.Frag}{H H':Hp}{a:Addr}{o:Obj}{vs:List V}(p:Pers H H')(h:H a=some (.frz o (.lst vs))):SqL K H' a vs:=.inl (.inr ⟨o,p _ _ h rfl⟩)
theorem zdo(h:DE X e te):DI X tg e (zhm te):=⟨λpins s σ H R I ⟨H₀,σD,QD,ok,q,k⟩=>zkm h.pe pins s σ H R I ⟨H₀,σD,_,ok,q,λv H1 d s1 r1 q1=>by
 cases d with
 |list xs=>
  cases r1 with
  |lst hf r=>exact .inl ⟨_,_,rfl,.inl (.inr ⟨_,hf⟩),k _ _ xs s1 (zkn λH' pr=>⟨pr.sqF hf,r.mono pr⟩) q1⟩
 |tuple xs=>
  cases r1 with
  |tup hf r=>exact .inr ⟨_,_,rfl,hf,k _ _ xs s1 (zko λH' pr=>⟨pr.sqT hf,r.mono pr⟩) q1⟩
 |_=>exact q1.elim⟩⟩
theorem RepL.sq'{K:PySem.W.Frag}{H H':Hp}{a:Addr}{vs:List V}(s:Same H H')(h:Rd H a (.lst vs)):SqL K H' a vs:=by
 rcases h with h |⟨o,h⟩
 ·exact .inl (.inl (s _ _ h))
 ·exact .inl (.inr ⟨o,s _ _ h⟩)
theorem zne(h:DV X e te):DIw X tg e (zhm te):=⟨λpins s σ H R I ⟨H₀,σD,QD,ok,q,k⟩=>zkm h.pe pins s σ H R I ⟨H₀,σD,_,ok,q,λv H1 d s1 r1 q1=>by
 cases d with
 |list xs=>
  obtain⟨a,vs,rfl,hf,r⟩:=r1.list;exact .inl ⟨_,_,rfl,.inl hf,k _ _ xs s1 (zkn λH' pr=>⟨RepL.sq' pr hf,r.same pr⟩) q1⟩
 |tuple xs=>
  obtain⟨a,vs,rfl,hf,r⟩:=r1.tuple;exact .inr ⟨_,_,rfl,hf,k _ _ xs s1 (zko λH' pr=>⟨pr.pers.sqT hf,r.same pr⟩) q1⟩
 |_=>exact q1.elim⟩⟩
def xz(lo:Int)(n:Nat):List D:=(List.range n).map λi=>.int (lo+(i:Nat))
theorem zqz{K:PySem.W.Frag}{Kp:Hp->Hp->Prop}{H1:Hp}(lo:Int)(n:Nat):ItOk K Kp (Itr lo n) H1 (xz lo n) where
 go:=λH i d k e=>by
  have hi:i<n:=by have:=(List.getElem?_eq_some_iff.mp e).1;simpa[xz]using this
  refine⟨hi,λx H' y=>?_⟩;obtain⟨rfl,rfl⟩:=y;refine⟨Same.refl _,?_⟩;simp[xz,List.getElem?_map,List.getElem?_range hi]at e;subst e;exact .int
 stop:=λH k=>by
  show n<=(xz lo n).length;simp[xz]
def zdp(ta:DTF):DTF:=λσ Q=>ta σ λds=>match ds with
 |[.int j]=>(-(2 ^ 62)<=j/\j<2 ^ 62)/\Q (xz 0 j.toNat)
 |_=>False
variable {a b:Expr}
theorem zix(hg:Gl X "range")(hm:X.mg "range" = none)(ha:DA X [a] t)(hs:starEach [a] X.env = [(false,eval a X.env)]:=by rfl):DI X tg (.Call (.Name "range" p) [a] [] pos) (zdp t) :=
 ⟨λpins s σ H R I ⟨H₀,σD,QD,ok,q,k⟩=>zib hg hm ha.pa hs pins s σ H R I ⟨H₀,σD,_,ok,q,λvs H1 ds s1 r1 q1=>by
  match ds,r1,q1 with
  |[.int j],r1,q1=>
   cases r1 with
   |cons r t=>
    cases t
    cases r;exact⟨j,rfl,q1.1.1,q1.1.2,k _ _ _ s1 (zqz 0 j.toNat) q1.2⟩⟩⟩
def qa(xs ys:List D):List D:=List.zipWith (λa b=>.tuple [a,b]) xs ys
theorem znf{elts:List Expr}{x1}{tpos:Pos}{ta:TA}(hg:Gl X "zip")(hm:X.mg "zip" = none)(ha:PA X [a,b] ta)(hb:bootBuiltins "zip" = some (.type "zip"):=by first|exact boot_zip|rfl|decide +kernel)(hs:starEach [a,b] X.env = [(false,eval a X.env),(false,eval b X.env)]:=by rfl)(hs2:starEach [b] X.env = [(false,eval b X.env)]:=by rfl):
  PI X (.Tuple elts x1 tpos) (.Call (.Name "zip" p) [a,b] [] pos) (λσ H R=>ta σ H λvs H1=>∃b1 b2 a b,vs = [.ref a,.ref b]/\(∃xs,SqG b1 X.K H1 a xs)/\(∃ys,SqG b2 X.K H1 b ys)/\R (Izg b1 b2 X.K a b) H1):=by
 intro pins s σ H R I h;refine Call_ (jz I hg hm hb (PyProof.Rows.callWith_type1 (thn (ha pos pins s σ H _ I h) λus s1 ⟨vs,H1,I1,r1,q1⟩=>?_) (by rw[hs,hs2]) (by rw[hs2];rfl)));obtain⟨b1,b2,l1,l2,e,⟨xs,hq1⟩,⟨ys,hq2⟩,q⟩:=q1;subst e;obtain⟨v1,v2,rfl,r1',r2'⟩:=r1.two
 cases r1'
 cases r2';obtain⟨its1,rv1,p1,hz1⟩:=I1.sqG hq1;obtain⟨its2,rv2,p2,hz2⟩:=I1.sqG hq2;refine zis p1 p2 λh' hz hTI hTO hi1 hi2 hk=>wpAny_pyIter_zip hz ?_;have I2:Inv X pins σ H1 { s1 with heap:=h' }:=I1.kept (t':=s1.toks) hk;refine⟨_,[s1.heap.objs.size+4,s1.heap.objs.size+2,s1.heap.objs.size+3,s1.heap.objs.size,s1.heap.objs.size+1],_,_,H1,rfl,I2,zit (zipApart_new p1.lt p2.lt),⟨hz,hTI,⟨_,_,hTO⟩,hi1,hi2⟩,λb hb=>?_,q⟩;have hb':s1.heap.objs.size<=b:=by
  simp only[List.mem_cons,List.not_mem_nil,or_false]at hb;rcases hb with rfl|rfl|rfl|rfl|rfl <;> omega
 exact I1.fpOk hb' (I1.hok.fresh hb')
theorem zq3{K:PySem.W.Frag}{Kp:Hp->Hp->Prop}{H1:Hp}{b1 b2:Bool}{l m:Addr}{xs ys:List D}{vs ws:List V}(kp:∀H,Kp H1 H->(SqG b1 K H l vs/\Reps K H xs vs)/\SqG b2 K H m ws/\Reps K H ys ws):ItOk K Kp (Izg b1 b2 K l m) H1 (qa xs ys) where
 go:=λH i d k e=>by
  obtain⟨⟨h1,r1⟩,h2,r2⟩:=kp H k;unfold qa at e;rw[List.getElem?_zipWith]at e
  cases ex:xs[i]? with
  |none=>rw[ex]at e;cases e
  |some x=>
   cases ey:ys[i]? with
   |none=>rw[ex,ey]at e;cases e
   |some y=>
    rw[ex,ey]at e
    cases e;obtain⟨v,e1,q1⟩:=r1.get ex;obtain⟨w,e2,q2⟩:=r2.get ey;refine⟨⟨vs,ws,v,w,h1,h2,e1,e2⟩,λz H' yl=>?_⟩;obtain⟨p,v',w',hp,rfl,rfl,y1,y2⟩:=yl;have z1:=y1 vs h1;have z2:=y2 ws h2;rw[e1]at z1;rw[e2]at z2
    cases z1
    cases z2;exact⟨zw hp _,.tup (SqT.of zl) (.cons (q1.same (zw hp _)) (.cons (q2.same (zw hp _)) .nil))⟩
 stop:=λH k=>by
  obtain⟨⟨h1,r1⟩,h2,r2⟩:=kp H k;refine⟨vs,ws,h1,h2,?_⟩;unfold qa;rw[List.length_zipWith,<-r1.length,<-r2.length];omega
def zq4(t:DTF):DTF:=λσ Q=>t σ λds=>match ds with
 |[.list xs,.list ys]=>Q (qa xs ys)
 |[.list xs,.tuple ys]=>Q (qa xs ys)
 |[.tuple xs,.list ys]=>Q (qa xs ys)
 |[.tuple xs,.tuple ys]=>Q (qa xs ys)
 |_=>False
theorem Rep.seqP{K:PySem.W.Frag}{H:Hp}{d:D}{v:V}{xs:List D}(h:Rep K H d v)(e:d=.list xs\/d=.tuple xs):∃b a vs,v=.ref a/\∀H',Pers H H'->SqG b K H' a vs/\Reps K H' xs vs:=by
 cases h with
 |lst hf r=>
  rcases e with e|e
  ·cases e;exact⟨false,_,_,rfl,λH' p=>⟨p.sqF hf,r.mono p⟩⟩
  ·cases e
 |tup hf r=>
  rcases e with e|e
  ·cases e
  ·cases e;exact⟨true,_,_,rfl,λH' p=>⟨p.sqT hf,r.mono p⟩⟩
 |_=>rcases e with e|e <;> cases e
theorem RepT.seqS{K:PySem.W.Frag}{H:Hp}{d:D}{v:V}{xs:List D}(h:RepT K H d v)(e:d=.list xs\/d=.tuple xs):∃b a vs,v=.ref a/\∀H',Same H H'->SqG b K H' a vs/\Reps K H' xs vs:=by
 rcases h with h |⟨ys,rfl,a,vs,rfl,hf,r⟩
 ·obtain⟨b,a,vs,e,k⟩:=h.seqP e;exact⟨b,a,vs,e,λH' s=>k H' s.pers⟩
 ·rcases e with e|e
  ·cases e;exact⟨false,a,vs,rfl,λH' s=>⟨RepL.sq' s hf,r.same s⟩⟩
  ·cases e
theorem ziy {ds:List D}{Q:List D->Prop} (h:match ds with
 |[.list xs,.list ys]=>Q (qa xs ys)
 |[.list xs,.tuple ys]=>Q (qa xs ys)
 |[.tuple xs,.list ys]=>Q (qa xs ys)
 |[.tuple xs,.tuple ys]=>Q (qa xs ys)
 |_=>False):∃d1 d2 xs ys,ds = [d1,d2]/\(d1=.list xs\/d1=.tuple xs)/\(d2=.list ys\/d2=.tuple ys)/\Q (qa xs ys):=by
 split at h
 ·exact⟨_,_,_,_,rfl,.inl rfl,.inl rfl,h⟩
 ·exact⟨_,_,_,_,rfl,.inl rfl,.inr rfl,h⟩
 ·exact⟨_,_,_,_,rfl,.inr rfl,.inl rfl,h⟩
 ·exact⟨_,_,_,_,rfl,.inr rfl,.inr rfl,h⟩
 ·exact h.elim
theorem zng{elts:List Expr}{x1}{tpos:Pos}(hg:Gl X "zip")(hm:X.mg "zip" = none)(ha:DAv X [a,b] t)(hs:starEach [a,b] X.env = [(false,eval a X.env),(false,eval b X.env)]:=by rfl)(hs2:starEach [b] X.env = [(false,eval b X.env)]:=by rfl):
  DIw X (.Tuple elts x1 tpos) (.Call (.Name "zip" p) [a,b] [] pos) (zq4 t) :=
 ⟨λpins s σ H R I ⟨H₀,σD,QD,ok,q,k⟩=>znf hg hm ha.pa (by first|exact boot_zip|rfl|decide +kernel) hs hs2 pins s σ H R I ⟨H₀,σD,_,ok,q,λvs H1 ds s1 r1 q1=>by
  obtain⟨d1,d2,xs,ys,rfl,e1,e2,q2⟩:=ziy q1;obtain⟨v,w,rfl,r,r2⟩:=r1.two;obtain⟨b1,l,vs,rfl,k1⟩:=r.seqS e1;obtain⟨b2,m,ws,rfl,k2⟩:=r2.seqS e2;exact⟨b1,b2,l,m,rfl,⟨vs,(k1 _ (Same.refl _)).1⟩,⟨ws,(k2 _ (Same.refl _)).1⟩,k _ _ _ s1 (zq3 λH' pr=>⟨k1 H' pr,k2 H' pr⟩) q2⟩⟩⟩
def q9:Nat->List D->List D
 |_,[]=>[]
 |k,x::xs=>.tuple [.int k,x]::q9 (k+1) xs
theorem zc0:∀{xs:List D}{k i:Nat}{x:D},(q9 k xs)[i]?=some x->∃y,xs[i]?=some y/\x=.tuple [.int ((k+i:Nat):Int),y]
 |[],_,_,_,e=>by simp[q9]at e
 |y::ys,k,0,x,e=>by simp[q9]at e;subst e;exact⟨y,rfl,rfl⟩
 |y::ys,k,i+1,x,e=>by
  simp only[q9,List.getElem?_cons_succ]at e;obtain⟨z,e1,e2⟩:=zc0 e;refine⟨z,by simpa using e1,?_⟩;rw[e2,show k+1+i=k+(i+1) by omega]
theorem zc1:∀(k:Nat) (xs:List D),(q9 k xs).length=xs.length
 |_,[]=>rfl
 |k,_::xs=>by simp[q9,zc1 (k+1) xs]
abbrev DTG:=D->DSt->(DSt->Prop)->Prop
abbrev zdq:=List D->DSt->(DSt->Prop)->Prop
structure DG(X:Cx)(tg:Expr)(is:List Nat)(g:DTG):Prop where
 run:∀(pins:List (Addr×Obj)) (s:Shared) (σ:St) (H H₀:Hp) (σD:DSt) (v:V) (u:Value) (d:D) (Q:DSt->Prop),Inv X pins σ H s->DOk X.K H₀ H σD σ->RelV v u->Rep X.K H d v->g d σD Q ->
  wpAny (model X.prog X.w) X.A (assign tg X.env u) (λ_ s'=>∃σ' σD',Inv X pins σ' H s'/\DOk X.K H₀ H σD' σ'/\(∀j,j∉is->σ'[j]?=σ[j]?)/\Q σD') X.xe s
structure DGs(X:Cx)(ts:List Expr)(is:List Nat)(g:zdq):Prop where
 run:∀(pins:List (Addr×Obj)) (s:Shared) (σ:St) (H H₀:Hp) (σD:DSt) (vs:List V) (us:List Value) (ds:List D) (Q:DSt->Prop),Inv X pins σ H s->DOk X.K H₀ H σD σ->Vals vs us->Reps X.K H ds vs->g ds σD Q ->
  wpAny (model X.prog X.w) X.A (assignInOrder ((assignEach ts X.env).map (·.2)) us) (λ_ s'=>∃σ' σD',Inv X pins σ' H s'/\DOk X.K H₀ H σD' σ'/\(∀j,j∉is->σ'[j]?=σ[j]?)/\Q σD') X.xe s
def zgg(i:Nat):DTG:=λd σ Q=>Q (σ.set i (some (.val d)))
theorem zt{i:Nat}{x:Str}(hN:X.N.Nodup)(hi:X.N[i]?=some x)(hx:Loc X.env.scope x)(hf:X.fn x=true\/X.env.scope.names.lookup x=some .local:=by first|exact .inl rfl|exact .inr rfl|assumption):DG X (.Name x pos) [i] (zgg i) :=
 ⟨λpins s σ H H₀ σD v u d Q I ok r rp q=>wpAny_assign_Name (xo I hN hi hx r (λs' I'=>⟨_,_,I',ok.setV rp i,λj hj=>List.getElem?_set_ne (λz=>hj (by simp[z])),q⟩) hf)⟩
def zkp:zdq:=λds σ Q=>ds = []/\Q σ
def zgh(g:DTG)(gs:zdq):zdq:=λds σ Q=>match ds with
 |d::r=>g d σ λσ'=>gs r σ' Q
 |[]=>False
theorem y0:DGs X [] [] zkp:=⟨λpins s σ H H₀ σD vs us ds Q I ok r rp q=>by
 obtain⟨rfl,q⟩:=q
 cases rp
 cases r;exact assignInOrder_nil ⟨σ,σD,I,ok,λ_ _=>rfl,q⟩⟩
theorem zr{e:Expr}{es:List Expr}{i1 i2:List Nat}{g:DTG}{gs:zdq}(h1:DG X e i1 g)(h2:DGs X es i2 gs)
  (hs:(assignEach (e::es) X.env).map (·.2)=assign e X.env::(assignEach es X.env).map (·.2):=by rfl):DGs X (e::es) (i1++i2) (zgh g gs):=⟨λpins s σ H H₀ σD vs us ds Q I ok r rp q=>by
 cases rp with
 |nil=>exact q.elim
 |cons rd rds=>
  cases r with
  |cons r rr=>
   rw[hs];refine assignInOrder_cons (thn (h1.run pins s σ H H₀ σD _ _ _ _ I ok r rd q) λ_ s1 zr48=>?_);obtain⟨σ1,σD1,I1,ok1,f1,q1⟩:=zr48;refine thn (h2.run pins s1 σ1 H H₀ σD1 _ _ _ Q I1 ok1 rr rds q1) λ_ s2 ⟨σ2,σD2,I2,ok2,f2,q2⟩=>⟨σ2,σD2,I2,ok2,λj hj=>?_,q2⟩
   rw[f2 j (λz=>hj (List.mem_append_right _ z)),f1 j (λz=>hj (List.mem_append_left _ z))]⟩
def zkq(n:Nat)(gs:zdq):DTG:=λd σ Q=>match d with
 |.tuple xs=>xs.length=n/\gs xs σ Q
 |_=>False
theorem zq5{es:List Expr}{k:Nat}{is:List Nat}{gs:zdq}{n:Nat}(hc:X.calm=true)(h:DGs X es is gs)(hn:(assignEach es X.env).length=n:=by rfl)(hst:(assignEach es X.env).findIdx? (·.1)=none:=by rfl):DG X (.Tuple es k pos) is (zkq n gs):=⟨λpins s σ H H₀ σD v u d Q I ok r rp q=>by
 cases d with
 |tuple xs=>
  obtain⟨hl,q⟩:=q
  cases rp with
  |tup hq rr=>
   cases r;obtain⟨its,rv,ht,hz⟩:=I.tuple hq;refine assign_Tuple_tuple (I.ok.hd hc) ht (by simp[hn,<-hl,<-rv.length,rr.length]) hst λh' hx=>?_;have I1:Inv X pins σ H { s with heap:=h' }:=I.kept (t':=s.toks) λb o e=>hx b o (Nat.ne_of_lt (Heap.lt_size e)) e;exact h.run pins _ σ H H₀ σD _ _ xs Q I1 ok (by simpa using rv) rr q
 |_=>exact q.elim⟩
def lcD(f:D->(Option D->Prop)->Prop):List D->(List D->Prop)->Prop
 |[],Q=>Q []
 |d::ds,Q=>f d λo=>lcD f ds λys=>Q (match o with|some y=>y::ys|none=>ys)
def zev:Option W->Option W
 |some (.own (.lst xs))=>some (.vw xs)
 |some (.own (.dct xs))=>some (.vd xs)
 |some (.own (.nst _ _))=>none
 |some (.own (.anc _ _))=>none
 |some (.own (.ins _ _))=>none
 |some (.own (.mix _))=>none
 |some (.own (.tk _))=>none
 |some (.own (.dcT _))=>none
 |some (.tmp _)=>none
 |w=>w
def xj(k:Nat)(js:List Nat)(σ:DSt):DSt:=List.replicate k none++js.map λj=>zev (σ[j]?).join
def lcF(g:DTG)(tt:DTT)(te:DTE)(σ0:DSt):D->(Option D->Prop)->Prop:=λd k=>g d σ0 λσ2=>tt σ2 λb=>if b=true then te σ2 λy=>k (some y) else k none
def dLC(k:Nat)(js:List Nat)(ti:DTF)(g:DTG)(tt:DTT)(te:DTE):DTF:=λσ Q=>ti σ λds=>ds.length<=sizeLine/\lcD (lcF g tt te (xj k js σ)) ds Q
structure DTs(X:Cx)(ifs:List Expr)(t:DTT):Prop where
 pts:PTs X ifs (cnT X.K t)
def zkr:DTT:=λ_ Q=>Q true
theorem ji:DTs X [] zkr:=⟨λpins s σ H Q I zq37=>by obtain⟨H₀,σD,QD,ok,q,k⟩:=zq37;exact zm2 pins s σ H Q I (k true H (Same.refl _) q)⟩
theorem Slots.keepN{K:PySem.W.Frag}{H₀ H:Hp}{σD:DSt}{σ:St}{fp:List Addr}(h:Slots K H₀ H σD σ fp):∀{σ':St},σ'.length=σ.length->(∀j:Nat,σD[j]?=some Option.none\/σ'[j]?=σ[j]?)->Slots K H₀ H σD σ' fp:=by
 induction h with
 |nil=>intro σ' hl _;cases σ' with
  |nil=>exact .nil
  |cons _ _=>simp at hl
 |none t ih=>
  intro σ' hl k
  cases σ' with
  |nil=>simp at hl
  |cons x σ'=>exact .none (ih (by simpa using hl) λj=>by simpa using k (j+1))
 |val r t ih=>
  intro σ' hl k
  cases σ' with
  |nil=>simp at hl
  |cons x σ'=>
   have:=k 0;simp at this;subst this;exact .val r (ih (by simpa using hl) λj=>by simpa using k (j+1))
 |vw r t ih=>
  intro σ' hl k
  cases σ' with
  |nil=>simp at hl
  |cons x σ'=>
   have:=k 0;simp at this;subst this;exact .vw r (ih (by simpa using hl) λj=>by simpa using k (j+1))
 |vd r t ih=>
  intro σ' hl k
  cases σ' with
  |nil=>simp at hl
  |cons x σ'=>
   have:=k 0;simp at this;subst this;exact .vd r (ih (by simpa using hl) λj=>by simpa using k (j+1))
 |exc r t ih=>
  intro σ' hl k
  cases σ' with
  |nil=>simp at hl
  |cons x σ'=>
   have:=k 0;simp at this;subst this;exact .exc r (ih (by simpa using hl) λj=>by simpa using k (j+1))
 |scr r t ih=>
  intro σ' hl k
  cases σ' with
  |nil=>simp at hl
  |cons x σ'=>
   have:=k 0;simp at this;subst this;exact .scr r (ih (by simpa using hl) λj=>by simpa using k (j+1))
 |pen r t ih=>
  intro σ' hl k
  cases σ' with
  |nil=>simp at hl
  |cons x σ'=>
   have:=k 0;simp at this;subst this;exact .pen r (ih (by simpa using hl) λj=>by simpa using k (j+1))
 |tmp r t ih=>
  intro σ' hl k
  cases σ' with
  |nil=>simp at hl
  |cons x σ'=>
   have:=k 0;simp at this;subst this;exact .tmp r (ih (by simpa using hl) λj=>by simpa using k (j+1))
 |own r t ih=>
  intro σ' hl k
  cases σ' with
  |nil=>simp at hl
  |cons x σ'=>
   have:=k 0;simp at this;subst this;exact .own r (ih (by simpa using hl) λj=>by simpa using k (j+1))
theorem DOk.keepN{K:PySem.W.Frag}{H₀ H:Hp}{σD:DSt}{σ σ':St}(h:DOk K H₀ H σD σ)(hl:σ'.length=σ.length)(k:∀j:Nat,σD[j]?=some Option.none\/σ'[j]?=σ[j]?):DOk K H₀ H σD σ':=let ⟨s,fp,sl,r⟩:=h;⟨s,fp,sl.keepN hl k,r⟩
theorem DOk.block{K:PySem.W.Frag}{H₀ H:Hp}{σD:DSt}{σ:St}(h:DOk K H₀ H σD σ)(k:Nat)(js:List Nat):DOk K H H (xj k js σD) (yz k js σ):=by
 refine⟨Same.refl _,[],?_,List.nodup_nil,λa ha=>by cases ha⟩;have two:∀js:List Nat,Slots K H H (js.map λj=>zev (σD[j]?).join) (js.map λj=>(σ[j]?).join) []:=by
  intro js
  induction js with
  |nil=>exact .nil
  |cons j js ih=>
   simp only[List.map_cons];have nn:∀v,Slots K H H (none::js.map λj=>zev (σD[j]?).join) (v::js.map λj=>(σ[j]?).join) []:=λv=>.none ih
   cases e:σD[j]? with
   |none=>exact nn _
   |some o=>
    cases o with
    |none=>exact nn _
    |some w=>
     cases w with
     |val d=>
      obtain⟨v,e1,r⟩:=h.val e;rw[e1];exact .val r ih
     |vw xs=>
      obtain⟨v,e1,r⟩:=h.vw e;rw[e1];exact .vw r ih
     |vd xs=>
      obtain⟨v,e1,r⟩:=h.vd e;rw[e1];exact .vd r ih
     |exc xs=>
      obtain⟨v,e1,r⟩:=h.exc e;rw[e1];exact .exc r ih
     |scr ns=>
      obtain⟨a,e1,r⟩:=h.scr e;rw[e1];exact .scr r ih
     |pen=>
      obtain⟨a,e1,r⟩:=h.pen e;rw[e1];exact .pen r ih
     |tmp d=>exact nn _
     |own o=>
      cases o with
      |lst xs=>
       obtain⟨a,vs,e1,e2,r,_⟩:=h.ownL e;rw[e1];exact .vw ⟨a,vs,rfl,.inl e2,r⟩ ih
      |dct xs=>
       obtain⟨a,vs,e1,e2,r,_⟩:=h.ownD e;rw[e1];exact .vd ⟨a,vs,rfl,e2,r⟩ ih
      |nst xss ds=>exact nn _
      |anc _ _=>exact nn _
      |ins _ _=>exact nn _
      |mix _=>exact nn _
      |tk _=>exact nn _
      |dcT _=>exact nn _
 unfold xj yz
 induction k with
 |zero=>exact two js
 |succ k ih=>exact .none ih
theorem zks{g:DTG}{tt:DTT}{te:DTE}{k:Nat}{js is:List Nat}{σ:St}{σD:DSt}{H₀ H1:Hp}{J:It}{ds:List D}{QD:List D->Prop}{Dd:Addr}{gL:TG}(ok:DOk X.K H₀ H1 σD σ)(it:ItOk X.K Same J H1 ds)(hz:ds.length<=sizeLine)
  (hg:∀d v σ' H' Q (σ0:DSt),DOk X.K H1 H' σ0 σ'->Rep X.K H' d v->g d σ0 Q->gL v σ' H' (λσ2 H2=>H2=H'/\σ2.length=σ'.length/\(∀j,j∉is->σ2[j]?=σ'[j]?)/\∃σD2,DOk X.K H1 H' σD2 σ2/\Q σD2))
  (mono:∀v σ' H' (Q Q':St->Hp->Prop),(∀σ2 H2,Q σ2 H2->Q' σ2 H2)->gL v σ' H' Q->gL v σ' H' Q')
  (his:∀j∈is,j<k) (hn:H1 Dd=none) (q:lcD (lcF g tt te (xj k js σD)) ds QD) :
  zdh J Dd gL (cnT X.K tt) (cnE X.K te) (yz k js σ) H1 (λv H'=>∃a vs xs,v=.ref a/\Same H1 H'/\H1 a=none/\H' a=some (.lst vs)/\Reps X.K H' xs vs/\QD xs):=by
 have sub:∀{Q1:List D->Prop}{i:Nat}{d:D},ds[i]?=some d->lcD (lcF g tt te (xj k js σD)) (ds.drop i) Q1=lcF g tt te (xj k js σD) d (λo=>lcD (lcF g tt te (xj k js σD)) (ds.drop (i+1)) λys=>Q1 (match o with|some y=>y::ys|none=>ys)):=λ{Q1 i d} e=>by
  obtain⟨hi,e'⟩:=List.getElem?_eq_some_iff.mp e;rw[List.drop_eq_getElem_cons hi,e'];rfl
 refine⟨λi m σ' H'=>m=ds.length-i/\i<=ds.length/\Same H1 H'/\σ'.length=(yz k js σ).length/\(∀j,k<=j->σ'[j]?=(yz k js σ)[j]?)/\∃acc vs,H' Dd=some (.lst vs)/\Reps X.K H' acc vs/\acc.length<=i/\lcD (lcF g tt te (xj k js σD)) (ds.drop i) (λys=>QD (acc++ys)),
  ⟨ds.length,rfl,Nat.zero_le _,zw hn _,rfl,λ_ _=>rfl,[],[],zl,.nil,Nat.le_refl _,q⟩,?_⟩
 intro i m σ' H' zz;refine gg λG zk=>?_;obtain⟨zem,hi,sm,hl,fr,acc,vs,eD,ra,la,q1⟩:=zz;refine zk ?_;clear zk;subst zem;have ok1:DOk X.K H1 H' (xj k js σD) σ':=by
  refine DOk.keepN ((ok.block k js).after sm) hl λj=>?_
  by_cases hj:j<k
  ·left;unfold xj;rw[List.getElem?_append_left (by simpa using hj),List.getElem?_replicate,if_pos hj]
  ·right;exact fr j (by omega)
 by_cases hlt:i<ds.length
 ·have e:ds[i]?=some ds[i]:=by simp[hlt]
  obtain⟨go,yl⟩:=it.go H' i ds[i] sm e;refine .inr ⟨go,λx H2 y=>?_⟩;obtain⟨s2,r2⟩:=yl x H2 y;rw[sub e]at q1;refine mono _ _ _ _ _ (λσ2 H3 z=>?_) (hg ds[i] x σ' H2 _ _ (ok1.after s2) r2 q1);obtain⟨rfl,l2,f2,σD2,ok2,q2⟩:=z;have fr2:∀j,k<=j->σ2[j]?=(yz k js σ)[j]?:=λj hj=>by rw[f2 j (λz=>absurd (his j z) (by omega)),fr j hj]
  refine⟨H1,σD2,_,ok2,q2,λb H4 s4 q4=>?_⟩
  cases b with
  |true=>
   rw[if_pos rfl]at q4 ⊢;refine⟨H1,σD2,_,ok2.after s4,q4,λy H5 dy s5 r5 q5=>?_⟩;have eD5:=s5 _ _ (s4 _ _ (s2 _ _ eD));have ra5:=((ra.same s2).same s4).same s5;refine⟨vs,eD5,by rw[<-ra5.length];omega,ds.length-(i+1),by omega,rfl,hlt,?_,l2.trans hl,fr2,acc ++ [dy],vs ++ [y],zl,?_,by rw[List.length_append,List.length_singleton];omega,?_⟩
   ·exact Same.but (((sm.trans s2).trans s4).trans s5) hn But.write
   ·exact(ra5.append (.cons r5 .nil)).mono (y9 eD5 rfl)
   ·simpa using q5
  |false=>
   rw[if_neg Bool.false_ne_true]at q4 ⊢;exact⟨ds.length-(i+1),by omega,rfl,hlt,(sm.trans s2).trans s4,l2.trans hl,fr2,acc,vs,s4 _ _ (s2 _ _ eD),(ra.same s2).same s4,by omega,by simpa using q4⟩
 ·have e:i=ds.length:=by omega
  subst e;rw[List.drop_length]at q1;refine .inl ⟨it.stop H' sm,Dd,vs,acc,rfl,sm,hn,eD,ra,?_⟩;have:lcD (lcF g tt te (xj k js σD)) [] (λys=>QD (acc++ys)):=q1;simpa[lcD]using this
def cnG(K:PySem.W.Frag)(is:List Nat)(g:DTG):TG:=λv σ H Q=>∃H₀ σD d QD,DOk K H₀ H σD σ/\Rep K H d v/\g d σD QD/\∀σ' σD',σ'.length=σ.length->DOk K H₀ H σD' σ'->(∀j,j∉is->σ'[j]?=σ[j]?)->QD σD'->Q σ' H
theorem DG.pg{is:List Nat}{g:DTG}(h:DG X tg is g):PG X tg (cnG X.K is g):=λpins s σ H v u Q I r zq87=>by obtain⟨H₀,σD,d,QD,ok,rp,q,k⟩:=zq87;exact thn (h.run pins s σ H H₀ σD v u d QD I ok r rp q) λ_ s' zq1=>by obtain⟨σ',σD',I',ok',f,qd⟩:=zq1;exact⟨σ',H,I',k σ' σD' (by rw[I'.len,I.len]) ok' f qd⟩
variable {elt:Expr}{ifs:List Expr}{scope:Scope}{cl:List (Str×Addr)}{N' capt:List Str}{k:Nat}{js is:List Nat}{ti:DTF}{g:DTG}{tt:DTT}{te:DTE}
theorem zew(hc:X.calm=true)(L:zp9 X scope cl N' capt k js)
  (hi:DIw X tg iter ti) (hg:∀C fp s2 H2,DG (wl X N' scope cl C fp s2 H2) tg is g) (ht:∀C fp s2 H2,DTs (wl X N' scope cl C fp s2 H2) ifs tt) (he:∀C fp s2 H2,DE (wl X N' scope cl C fp s2 H2) elt te)
  (his:∀j∈is,j<k:=by decide) (hs:∀x,foldedSetIterable iter X.env x=pure x:=by intro _;rfl):DF X (.ListComp elt [⟨tg,iter,ifs,0⟩] scope pos) (dLC k js ti g tt te) :=
 DF.of (ztb hc L hi.pi (λC fp s2 H2=>(hg C fp s2 H2).pg) (λC fp s2 H2=>(ht C fp s2 H2).pts) (λC fp s2 H2=>(he C fp s2 H2).pe) hs) λσ H H₀ σD QD ok q=>⟨H₀,σD,_,ok,q,λJ H1 ds s1 it q1 Dd hn=>by
  have z:=zks (k:=k) (js:=js) (is:=is) (gL:=cnG X.K is g) (Dd:=Dd) (ok.after s1) it q1.1 (λd v σ' H' Q σ0 ok0 r0 q0=>⟨H1,σ0,d,Q,ok0,r0,q0,λσ2 σD2 l2 ok2 f2 q2=>⟨rfl,l2,f2,σD2,ok2,q2⟩⟩)
   (λv σ' H' Q Q' m zq7=>by obtain⟨a,b,c,d,e1,e2,e3,e4⟩:=zq7;exact⟨a,b,c,d,e1,e2,e3,λσ2 σD2 l o f q=>m _ _ (e4 σ2 σD2 l o f q)⟩) his hn q1.2
  obtain⟨W,w0,turn⟩:=z;refine⟨W,w0,λi m σ' H' w=>?_⟩;rcases turn i m σ' H' w with⟨st,a,vs,xs,e,sm,n,e2,r,qd⟩|h
  ·exact .inl ⟨st,a,vs,xs,e,s1.trans sm,s1.free n,e2,r,qd⟩
  ·exact .inr h⟩
end
inductive Ret where
 |val (d:D)|new (xs:List D)
def Ret.d:Ret->D
 |.val d=>d
 |.new xs=>.list xs
abbrev DSp:=List W->(Ret->Prop)->Prop
def zgi(K:PySem.W.Frag)(H H':Hp):Ret->V->Prop
 |.val d,v=>Rep K H' d v
 |.new xs,v=>∃a vs,v=.ref a/\H a=none/\H' a=some (.lst vs)/\Reps K H' xs vs
def zq(K:PySem.W.Frag)(sp:DSp):Sp:=λvs H Q _=>∃ws QD,RepWs K H ws vs/\sp ws QD/\∀v H' r,Same H H'->zgi K H H' r v->QD r->Q v H'
def zkt(sp:DSp)(t:DTP):DTE:=λσ Q=>t σ λws=>sp ws λr=>Q r.d
def zgj(sp:DSp)(t:DTP):DTF:=λσ Q=>t σ λws=>sp ws λr=>match r with
 |.new xs=>Q xs
 |.val _=>False
section
variable {X:Cx}{e:Expr}{es:List Expr}{k k':Nat}{x:Str}{ps:List Str}{sp:DSp}{t:DTP}{p pos:Pos}
theorem zex{pins:List (Addr×Obj)}{σ:St}{H H₀:Hp}{σD:DSt}{s:Shared}{Q:Ret->Prop}(C:j3 X.prog X.w X.K X.mg X.base k x ps (zq X.K sp))(hr:Room k' X.A)(hg:Gl X x)(ha:DPs X (e::es) t)(hk:k<=k')
  (hdb:(x ==("__debug__" : Str))=false) (he:starEach (e::es) X.env=(false,eval e X.env)::starEach es X.env) (hpl:(backTo pos (starEach es X.env)).any (·.1)=false) (I:Inv X pins σ H s) (ok:DOk X.K H₀ H σD σ) (q:t σD λws=>sp ws Q) :
  wpAny (model X.prog X.w) X.A (eval (.Call (.Name x p) (e::es) [] pos) X.env) (λu s'=>∃v H' r,Inv X pins σ H' s'/\RelV v u/\Same H H'/\zgi X.K H H' r v/\Q r) X.xe s:=by
 refine thn (zbf C hr hg ha.pa hk hdb he hpl pins s σ H (λv H'=>∃r,Same H H'/\zgi X.K H H' r v/\Q r) I ?_) λu s' zq26=>by obtain⟨v,H',I',r,z,sm,rp,qd⟩:=zq26;exact⟨v,H',z,I',r,sm,rp,qd⟩
 refine⟨H₀,σD,_,ok,q,λvs H1 ws s1 r1 q1=>⟨ws,Q,by rw[List.append_nil];exact r1,q1,λv H' r s2 rp qd=>⟨r,s1.trans s2,?_,qd⟩⟩⟩
 cases r with
 |val d=>exact rp
 |new xs=>obtain⟨a,vs,e1,n,e2,r⟩:=rp;exact⟨a,vs,e1,s1.free n,e2,r⟩
theorem zb(C:j3 X.prog X.w X.K X.mg X.base k x ps (zq X.K sp))(hr:Room k' X.A)(hg:Gl X x)(ha:DPs X (e::es) t)(hk:k<=k':=by decide)(hdb:(x ==("__debug__" : Str))=false:=by decide)
  (he:starEach (e::es) X.env=(false,eval e X.env)::starEach es X.env:=by rfl) (hpl:(backTo pos (starEach es X.env)).any (·.1)=false:=by rfl):DE X (.Call (.Name x p) (e::es) [] pos) (zkt sp t) :=
 ⟨λpins s σ H H₀ σD Q I ok q=>thn (zex C hr hg ha hk hdb he hpl I ok q) λu s' zq83=>by
  obtain⟨v,H',r,I',rv,sm,rp,qd⟩:=zq83
  cases r with
  |val d=>exact⟨v,H',d,I',rv,sm,rp,qd⟩
  |new xs=>
   obtain⟨a,vs,rfl,n,e,r⟩:=rp;obtain⟨H'',J,sm',r'⟩:=zga I' sm n e r;exact⟨.ref a,H'',.list xs,J,rv,sm',r',qd⟩⟩
theorem znh(C:j3 X.prog X.w X.K X.mg X.base k x ps (zq X.K sp))(hr:Room k' X.A)(hg:Gl X x)(ha:DPs X (e::es) t)(hk:k<=k':=by decide)(hdb:(x ==("__debug__" : Str))=false:=by decide)
  (he:starEach (e::es) X.env=(false,eval e X.env)::starEach es X.env:=by rfl) (hpl:(backTo pos (starEach es X.env)).any (·.1)=false:=by rfl):DF X (.Call (.Name x p) (e::es) [] pos) (zgj sp t) :=
 ⟨λpins s σ H H₀ σD Q I ok q=>thn (zex C hr hg ha hk hdb he hpl I ok q) λu s' zq83=>by
  obtain⟨v,H',r,I',rv,sm,rp,qd⟩:=zq83
  cases r with
  |val d=>exact qd.elim
  |new xs=>
   obtain⟨a,vs,rfl,n,e,r⟩:=rp;exact⟨a,H',vs,xs,rv,I',sm,n,e,r,qd⟩⟩
end
structure xu where
 nx:DSt->Prop
 rt:Ret->Prop
 bk:DSt->Prop:=λ_=>False
 ct:DSt->Prop:=λ_=>False
abbrev DTS:=xu->DSt->Prop
def DSP(X:Cx)(pins:List (Addr×Obj))(H₀ H:Hp)(Dn:xu)(f:Flow)(s':Shared):Prop :=
 match f with
 |.next=>∃σ' H' σD',Inv X pins σ' H' s'/\DOk X.K H₀ H' σD' σ'/\Pers H H'/\Dn.nx σD'
 |.brk=>∃σ' H' σD',Inv X pins σ' H' s'/\DOk X.K H₀ H' σD' σ'/\Pers H H'/\Dn.bk σD'
 |.cont=>∃σ' H' σD',Inv X pins σ' H' s'/\DOk X.K H₀ H' σD' σ'/\Pers H H'/\Dn.ct σD'
 |.ret u=>∃v σ' H' r,Inv X pins σ' H' s'/\RelV v u/\Same H₀ H'/\zgi X.K H₀ H' r v/\Dn.rt r
structure DS(X:Cx)(st:Stmt)(t:DTS):Prop where
 run:∀(pins:List (Addr×Obj)) (s:Shared) (σ:St) (H H₀:Hp) (σD:DSt) (Dn:xu),Inv X pins σ H s->DOk X.K H₀ H σD σ->t Dn σD->wpAny (model X.prog X.w) X.A (exec st X.env) (DSP X pins H₀ H Dn) X.xe s
structure DSs(X:Cx)(st:List Stmt)(t:DTS):Prop where
 run:∀(pins:List (Addr×Obj)) (s:Shared) (σ:St) (H H₀:Hp) (σD:DSt) (Dn:xu),Inv X pins σ H s->DOk X.K H₀ H σD σ->t Dn σD->wpAny (model X.prog X.w) X.A (execs st X.env) (DSP X pins H₀ H Dn) X.xe s
theorem DSP.back{X:Cx}{pins:List (Addr×Obj)}{H₀ H H1:Hp}{Dn:xu}{f:Flow}{s':Shared}(p:Pers H H1)(h:DSP X pins H₀ H1 Dn f s'):DSP X pins H₀ H Dn f s':=by
 cases f with
 |next=>obtain⟨a,b,c,e1,e2,e3,e4⟩:=h;exact⟨a,b,c,e1,e2,p.trans e3,e4⟩
 |brk=>obtain⟨a,b,c,e1,e2,e3,e4⟩:=h;exact⟨a,b,c,e1,e2,p.trans e3,e4⟩
 |cont=>obtain⟨a,b,c,e1,e2,e3,e4⟩:=h;exact⟨a,b,c,e1,e2,p.trans e3,e4⟩
 |ret u=>exact h
def zku(K:PySem.W.Frag)(H₀ H:Hp)(Dn:xu):zfv where
 nx:=λσ' H'=>∃σD',DOk K H₀ H' σD' σ'/\Pers H H'/\Dn.nx σD'
 bk:=λσ' H'=>∃σD',DOk K H₀ H' σD' σ'/\Pers H H'/\Dn.bk σD'
 ct:=λσ' H'=>∃σD',DOk K H₀ H' σD' σ'/\Pers H H'/\Dn.ct σD'
 rt:=λv H'=>∃r,Same H₀ H'/\zgi K H₀ H' r v/\Dn.rt r
section
variable {X:Cx}{st:Stmt}{sts rest:List Stmt}{t u:DTS}{e:Expr}{te:DTE}{tf:DTF}{pos:Pos}
theorem SP.dsp{pins:List (Addr×Obj)}{H₀ H:Hp}{Dn:xu}{f:Flow}{s':Shared}(h:SP X pins (zku X.K H₀ H Dn) f s'):DSP X pins H₀ H Dn f s':=by
 cases f with
 |next=>obtain⟨a,b,e1,c,e2,e3,e4⟩:=h;exact⟨a,b,c,e1,e2,e3,e4⟩
 |brk=>obtain⟨a,b,e1,c,e2,e3,e4⟩:=h;exact⟨a,b,c,e1,e2,e3,e4⟩
 |cont=>obtain⟨a,b,e1,c,e2,e3,e4⟩:=h;exact⟨a,b,c,e1,e2,e3,e4⟩
 |ret u=>obtain⟨v,a,b,e1,e2,r,e3,e4,e5⟩:=h;exact⟨v,a,b,r,e1,e2,e3,e4,e5⟩
theorem DS.of{t':TS}(h:PS X st t')(k:∀σ H H₀ σD Dn,DOk X.K H₀ H σD σ->t Dn σD->t' (zku X.K H₀ H Dn) σ H):DS X st t :=
 ⟨λpins s σ H H₀ σD Dn I ok q=>thn (h pins s σ H _ I (k σ H H₀ σD Dn ok q)) λ_ _ z=>z.dsp⟩
def cnS(K:PySem.W.Frag)(t:DTS):TS:=λE σ H=>∃H₀ σD Dn,DOk K H₀ H σD σ/\t Dn σD/\(∀σ' H' σD',DOk K H₀ H' σD' σ'->Pers H H'->Dn.nx σD'->E.nx σ' H')/\(∀v H' r,Same H₀ H'->zgi K H₀ H' r v->Dn.rt r->E.rt v H') /\
 (∀σ' H' σD',DOk K H₀ H' σD' σ'->Pers H H'->Dn.bk σD'->E.bk σ' H')/\∀σ' H' σD',DOk K H₀ H' σD' σ'->Pers H H'->Dn.ct σD'->E.ct σ' H'
theorem DSs.ps(h:DSs X sts t):PSs X sts (cnS X.K t):=by
 intro pins s σ H E I zz;obtain⟨H₀,σD,Dn,ok,q,k1,k2,k3,k4⟩:=zz;refine thn (h.run pins s σ H H₀ σD Dn I ok q) λf s' z=>?_
 cases f with
 |next=>obtain⟨a,b,c,e1,e2,e3,e4⟩:=z;exact⟨a,b,e1,k1 a b c e2 e3 e4⟩
 |brk=>obtain⟨a,b,c,e1,e2,e3,e4⟩:=z;exact⟨a,b,e1,k3 a b c e2 e3 e4⟩
 |cont=>obtain⟨a,b,c,e1,e2,e3,e4⟩:=z;exact⟨a,b,e1,k4 a b c e2 e3 e4⟩
 |ret u=>obtain⟨v,a,b,r,e1,e2,e3,e4,e5⟩:=z;exact⟨v,a,b,e1,e2,k2 v b r e3 e4 e5⟩
def zkv:DTS:=λDn σ=>Dn.nx σ
def zni(t u:DTS):DTS:=λDn σ=>t { Dn with nx:=u Dn } σ
theorem z9:DSs X [] zkv:=⟨λ_ _ σ H _ σD _ I ok h=>wpAny_execs_nil ⟨σ,H,σD,I,ok,Pers.refl _,h⟩⟩
theorem za(h1:DS X st t)(h2:DSs X rest u):DSs X (st::rest) (zni t u):=⟨λpins s σ H H₀ σD Dn I ok q=>by
 refine wpAny_execs_cons (thn (h1.run pins s σ H H₀ σD { Dn with nx:=u Dn } I ok q) λf s1 z=>?_)
 cases f with
 |next=>
  obtain⟨σ',H',σD',I',ok',p,q'⟩:=z;exact thn (h2.run pins s1 σ' H' H₀ σD' Dn I' ok' q') λ_ _ y=>y.back p
 |ret v=>exact z
 |brk=>exact z
 |cont=>exact z⟩
theorem zf(h1:DS X st t):DSs X [st] t:=⟨λpins s σ H H₀ σD Dn I ok q=>by
 refine wpAny_execs_cons (thn (h1.run pins s σ H H₀ σD Dn I ok q) λf s1 z=>?_)
 cases f with
 |next=>exact wpAny_execs_nil z
 |ret v=>exact z
 |brk=>exact z
 |cont=>exact z⟩
def zgk:DTS:=λ_ _=>False
theorem qb:DS X st zgk:=⟨λ_ _ _ _ _ _ _ _ _ h=>h.elim⟩
def znj(i:Nat)(t:DTS):DTS:=λDn σ=>match σ[i]? with
 |some (some (.own (.lst xs)))=>t Dn (σ.set i (some (.val (.list xs))))
 |_=>False
theorem zgl{K:PySem.W.Frag}{H:Hp}{xss:List (List D)}{ds:List D}{v:V}{f1 f2:List Addr}(r:RepO K H (.nst xss ds) v f1)(r2:RepO K H (.nst xss ds) v f2):f1=f2:=by
 obtain⟨a,as,us,rfl,rfl,e,n,_⟩:=r;obtain⟨a2,as2,us2,e0,rfl,e2,n2,_⟩:=r2
 cases e0;rw[e]at e2;have h1:as.map V.ref++us=as2.map V.ref++us2:=HO.lst.inj (Option.some.inj e2);have h2:as.map V.ref=as2.map V.ref:=(List.append_inj h1 (by rw[List.length_map,List.length_map,n.len,n2.len])).1;have h3:as=as2:=(List.map_inj_right λx y h=>V.ref.inj h).mp h2;rw[h3]
theorem RepO.fp{K:PySem.W.Frag}{H:Hp}{o:O}{v:V}{f1 f2:List Addr}(r:RepO K H o v f1)(r2:RepO K H o v f2):f1=f2:=by
 induction o with
 |lst xs=>
  obtain⟨b,_,eb,rfl,_⟩:=r;obtain⟨b2,_,eb2,rfl,_⟩:=r2;rw[eb]at eb2
  cases eb2;rfl
 |dct xs=>
  obtain⟨b,_,eb,rfl,_⟩:=r;obtain⟨b2,_,eb2,rfl,_⟩:=r2;rw[eb]at eb2
  cases eb2;rfl
 |nst xss ds=>exact zgl r r2
 |anc a o ih=>exact ih r.2 r2.2
 |tk ks=>
  obtain⟨b,eb,rfl,_⟩:=r;obtain⟨b2,eb2,rfl,_⟩:=r2;rfl
 |dcT xs=>
  obtain⟨b,_,eb,rfl,_⟩:=r;obtain⟨b2,_,eb2,rfl,_⟩:=r2;rw[eb]at eb2
  cases eb2;rfl
 |mix ms=>
  obtain⟨a,us,bs,rfl,rfl,e1,m⟩:=r;obtain⟨a2,us2,bs2,e0,rfl,e2,m2⟩:=r2
  cases e0;rw[e1]at e2
  cases e2;rw[m.fp m2]
 |ins c fs=>
  obtain⟨a,dx,C,fv,rfl,rfl,_,e1,_⟩:=r;obtain⟨a2,dx2,C2,fv2,e0,rfl,_,e2,_⟩:=r2
  cases e0;rw[e1]at e2
  cases e2;rfl
theorem DOk.frz{pins:List (Addr×Obj)}{s:Shared}{σ:St}{H H₀:Hp}{σD:DSt}{i:Nat}{xs:List D}(I:Inv X pins σ H s)(ok:DOk X.K H₀ H σD σ)(e:σD[i]?=some (some (.own (.lst xs)))):∃H',Inv X pins σ H' s/\DOk X.K H₀ H' (σD.set i (some (.val (.list xs)))) σ/\Pers H H':=by
 obtain⟨a,vs,e1,e2,r,n⟩:=ok.ownL e;obtain⟨o,J⟩:=I.frz e2;have ps:Pers H (upd H a (.frz o (.lst vs))):=y9 e2 rfl;refine⟨_,J,?_,ps⟩;obtain⟨s0,fp,sl,nd,fr⟩:=id ok;have sm:Same H₀ (upd H a (.frz o (.lst vs))):=λb u hb=>by rw[zj (z0 hb n)];exact s0 b u hb
 have hi:i<σD.length:=(List.getElem?_eq_some_iff.mp e).1
 -- the slot is forgotten first,then filled with the value
 obtain⟨_,fp1,sl1,nd1,fr1⟩:DOk X.K H₀ H (σD.set i none) (σ.set i (some (.ref a))):=ok.setN (some (.ref a)) i;have eσ:σ.set i (some (.ref a))=σ:=by
  refine List.ext_getElem? λj=>?_
  by_cases hj:i=j
  ·subst hj;rw[List.getElem?_set_self (by rw[<-ok.len];exact hi),e1]
  ·rw[List.getElem?_set_ne hj]
 rw[eσ]at sl1;have off:a∉fp1:=λha=>by
  -- every slot's own addresses apart: a belongs to slot i alone
  have key:∀{σD:DSt}{σ:St}{fp:List Addr},Slots X.K H₀ H σD σ fp->fp.Nodup->∀{i:Nat},σD[i]?=some (some (.own (.lst xs)))->σ[i]?=some (some (.ref a))->∀{fp1:List Addr},Slots X.K H₀ H (σD.set i none) σ fp1->a∉fp1:=by
   intro σD σ fp h;have det:∀{σD:DSt}{σ:St}{f1 f2:List Addr},Slots X.K H₀ H σD σ f1->Slots X.K H₀ H σD σ f2->f1=f2:=by
    intro σD σ f1 f2 h1
    induction h1 generalizing f2 with
    |nil=>intro h2;cases h2;rfl
    |none _ ih=>intro h2;cases h2 with|none t=>exact ih t
    |val _ _ ih=>intro h2;cases h2 with|val _ t=>exact ih t
    |vw _ _ ih=>intro h2;cases h2 with|vw _ t=>exact ih t
    |vd _ _ ih=>intro h2;cases h2 with|vd _ t=>exact ih t
    |exc _ _ ih=>intro h2;cases h2 with|exc _ t=>exact ih t
    |scr _ _ ih=>intro h2;cases h2 with|scr _ t=>exact ih t
    |pen _ _ ih=>intro h2;cases h2 with|pen _ t=>exact ih t
    |tmp _ _ ih=>intro h2;cases h2 with|tmp _ t=>exact ih t
    |@own o v f ws vs fp r _ ih=>
     intro h2
     cases h2 with
     |own r2 t=>
      cases o with
      |lst xs=>
       obtain⟨b,_,eb,rfl,_⟩:=r;obtain⟨b2,_,eb2,rfl,_⟩:=r2;rw[eb]at eb2
       cases eb2;rw[ih t]
      |dct xs=>
       obtain⟨b,_,eb,rfl,_⟩:=r;obtain⟨b2,_,eb2,rfl,_⟩:=r2;rw[eb]at eb2
       cases eb2;rw[ih t]
      |nst xss ds=>
       rw[zgl r r2,ih t]
      |anc _ _=>rw[RepO.fp r r2,ih t]
      |ins _ _=>rw[RepO.fp r r2,ih t]
      |mix _=>rw[RepO.fp r r2,ih t]
      |tk _=>rw[RepO.fp r r2,ih t]
      |dcT _=>rw[RepO.fp r r2,ih t]
   induction h with
   |nil=>intro _ i e;simp at e
   |none t ih=>
    intro nd i e ev fp1 h1
    cases i with
    |zero=>simp at e
    |succ i=>cases h1 with|none t1=>exact ih nd (by simpa using e) (by simpa using ev) t1
   |val r t ih=>
    intro nd i e ev fp1 h1
    cases i with
    |zero=>simp at e
    |succ i=>cases h1 with|val _ t1=>exact ih nd (by simpa using e) (by simpa using ev) t1
   |vw r t ih=>
    intro nd i e ev fp1 h1
    cases i with
    |zero=>simp at e
    |succ i=>cases h1 with|vw _ t1=>exact ih nd (by simpa using e) (by simpa using ev) t1
   |vd r t ih=>
    intro nd i e ev fp1 h1
    cases i with
    |zero=>simp at e
    |succ i=>cases h1 with|vd _ t1=>exact ih nd (by simpa using e) (by simpa using ev) t1
   |exc r t ih=>
    intro nd i e ev fp1 h1
    cases i with
    |zero=>simp at e
    |succ i=>cases h1 with|exc _ t1=>exact ih nd (by simpa using e) (by simpa using ev) t1
   |scr r t ih=>
    intro nd i e ev fp1 h1
    cases i with
    |zero=>simp at e
    |succ i=>cases h1 with|scr _ t1=>exact ih nd (by simpa using e) (by simpa using ev) t1
   |pen r t ih=>
    intro nd i e ev fp1 h1
    cases i with
    |zero=>simp at e
    |succ i=>cases h1 with|pen _ t1=>exact ih nd (by simpa using e) (by simpa using ev) t1
   |tmp r t ih=>
    intro nd i e ev fp1 h1
    cases i with
    |zero=>simp at e
    |succ i=>cases h1 with|tmp _ t1=>exact ih nd (by simpa using e) (by simpa using ev) t1
   |@own o v f ws wvs fp' r t ih=>
    intro nd i e ev fp1 h1;rw[List.nodup_append]at nd
    cases i with
    |zero=>
     simp at e ev;subst e ev;obtain⟨b,_,eb,rfl,_⟩:=r
     cases eb
     cases h1 with
     |none t1=>
      rw[det t1 t];exact λz=>nd.2.2 _ (by simp) _ z rfl
    |succ i=>
     have e':ws[i]?=some (some (.own (.lst xs))):=by simpa using e
     have ev':wvs[i]?=some (some (.ref a)):=by simpa using ev
     cases h1 with
     |own r1 t1=>
      intro z;rcases List.mem_append.mp z with z|z
      ·obtain⟨v',e1,f',⟨b,zs,rfl,rfl,hb,rb⟩,m⟩:=t.get e';rw[ev']at e1
       cases e1
       cases o with
       |lst ys=>
        obtain⟨b1,_,eb1,rfl,_⟩:=r;obtain⟨b2,_,eb2,rfl,_⟩:=r1;rw[eb1]at eb2
        cases eb2;exact nd.2.2 a z a (m a (by simp)) rfl
       |dct ys=>
        obtain⟨b1,_,eb1,rfl,_⟩:=r;obtain⟨b2,_,eb2,rfl,_⟩:=r1;rw[eb1]at eb2
        cases eb2;exact nd.2.2 a z a (m a (by simp)) rfl
       |nst yss ds=>
        rw[<-zgl r r1]at z;exact nd.2.2 a z a (m a (by simp)) rfl
       |anc _ _=>
        rw[<-RepO.fp r r1]at z;exact nd.2.2 a z a (m a (by simp)) rfl
       |ins _ _=>
        rw[<-RepO.fp r r1]at z;exact nd.2.2 a z a (m a (by simp)) rfl
       |mix _=>
        rw[<-RepO.fp r r1]at z;exact nd.2.2 a z a (m a (by simp)) rfl
       |tk _=>
        rw[<-RepO.fp r r1]at z;exact nd.2.2 a z a (m a (by simp)) rfl
       |dcT _=>
        rw[<-RepO.fp r r1]at z;exact nd.2.2 a z a (m a (by simp)) rfl
      ·exact ih nd.2.1 e' ev' t1 z
  exact key sl nd e e1 sl1 ha
 have sl2:Slots X.K H₀ (upd H a (.frz o (.lst vs))) (σD.set i none) σ fp1:=sl1.keep ps (λh=>h.frz e2) λb hb w hw=>by rw[zj (λz=>off (by rw[<-z];exact hb))];exact hw
 have fin:DOk X.K H₀ (upd H a (.frz o (.lst vs))) (σD.set i none) σ:=⟨sm,fp1,sl2,nd1,fr1⟩
 have:=fin.setV (d:=.list xs) (v:=.ref a) (.lst zl (r.mono ps)) i;rw[List.set_set,eσ]at this;exact this
theorem zq6(i:Nat)(h:DS X st t):DS X st (znj i t):=⟨λpins s σ H H₀ σD Dn I ok q=>by
 unfold znj at q
 split at q
 ·next xs e=>
  obtain⟨H',I',ok',p⟩:=DOk.frz I ok e;exact thn (h.run pins s σ H' H₀ _ Dn I' ok' q) λ_ _ z=>z.back p
 ·exact q.elim⟩
def zq8(te:DTE):DTS:=λDn σ=>te σ λd=>Dn.rt (.val d)
def zkw(tf:DTF):DTS:=λDn σ=>tf σ λxs=>Dn.rt (.new xs)
theorem zo(he:DE X e te):DS X (.Return (some e) pos) (zq8 te) :=
 DS.of (j0 he.pe) λσ H H₀ σD Dn ok q=>⟨H₀,σD,_,ok,q,λv H1 d s1 r1 q1=>⟨.val d,ok.same.trans s1,r1,q1⟩⟩
theorem znk(he:DF X e tf):DS X (.Return (some e) pos) (zkw tf) :=
 DS.of (j0 he.pe) λσ H H₀ σD Dn ok q=>⟨H₀,σD,_,ok,q,λa H1 vs xs s1 n e r1 q1=>⟨.new xs,ok.same.trans s1,⟨a,vs,rfl,ok.same.free n,e,r1⟩,q1⟩⟩
def zq9(i:Nat)(te:DTE):DTS:=λDn σ=>te σ λd=>Dn.nx (σ.set i (some (.val d)))
def zkx(i:Nat)(tf:DTF):DTS:=λDn σ=>tf σ λxs=>Dn.nx (σ.set i (some (.own (.lst xs))))
def zky(i:Nat)(tf:DTF):DTS:=λDn σ=>tf σ λxs=>(∃a b c:Int,xs = [.int a,.int b,.int c])/\Dn.nx (σ.set i (some .pen))
theorem yi{i:Nat}{x:Str}{pos':Pos}(hN:X.N.Nodup)(hi:X.N[i]?=some x)(hx:Loc X.env.scope x)(he:DE X e te)(hs:swapsWith e (some (.Name x pos')) pos.line X.env=pure false:=by rfl)(hf:X.fn x=true\/X.env.scope.names.lookup x=some .local:=by first|exact .inl rfl|exact .inr rfl|assumption):
  DS X (.Assign [.Name x pos'] e pos) (zq9 i te) :=
 DS.of (vz hN hi hx he.pe hs hf) λσ H H₀ σD Dn ok q=>⟨H₀,σD,_,ok,q,λv H1 d s1 r1 q1=>⟨_,(ok.after s1).setV r1 i,s1.pers,q1⟩⟩
theorem zdr{i:Nat}{x:Str}{pos':Pos}(hN:X.N.Nodup)(hi:X.N[i]?=some x)(hx:Loc X.env.scope x)(he:DF X e tf)(hs:swapsWith e (some (.Name x pos')) pos.line X.env=pure false:=by rfl)(hf:X.fn x=true\/X.env.scope.names.lookup x=some .local:=by first|exact .inl rfl|exact .inr rfl|assumption):
  DS X (.Assign [.Name x pos'] e pos) (zkx i tf) :=
 DS.of (vz hN hi hx he.pe hs hf) λσ H H₀ σD Dn ok q=>⟨H₀,σD,_,ok,q,λa H1 vs xs s1 n e r1 q1=>⟨_,ok.setO s1 n e r1 i,s1.pers,q1⟩⟩
theorem znl{i:Nat}{x:Str}{pos':Pos}(hN:X.N.Nodup)(hi:X.N[i]?=some x)(hx:Loc X.env.scope x)(he:DF X e tf)(hs:swapsWith e (some (.Name x pos')) pos.line X.env=pure false:=by rfl)(hf:X.fn x=true\/X.env.scope.names.lookup x=some .local:=by first|exact .inl rfl|exact .inr rfl|assumption):
  DS X (.Assign [.Name x pos'] e pos) (zky i tf):=⟨λpins s σ H H₀ σD Dn I ok q=>by
 refine thn (vz hN hi hx he.pe hs hf pins s σ H { nx:=λσ' H'=>∃a,Same H H'/\H a=none/\σ'=σ.set i (some (.ref a))/\(∃x y z:Int,H' a=some (.lst [.int x,.int y,.int z]))/\Dn.nx (σD.set i (some .pen)),rt:=λ_ _=>False } I ⟨H₀,σD,_,ok,q,λa H1 vs xs s1 n e r1 q1=>?_⟩) λf s' z=>?_
 ·obtain⟨⟨x,y,z,rfl⟩,q1⟩:=q1
  cases r1 with
  |cons r1 t=>cases t with
   |cons r2 t=>cases t with
    |cons r3 t=>
     cases t
     cases r1
     cases r2
     cases r3;exact⟨a,s1,n,rfl,⟨x,y,z,e⟩,q1⟩
 ·cases f with
  |next=>
   obtain⟨σ',H',I',a,sm,n,rfl,⟨x,y,z,e⟩,q⟩:=z;have sm2:Same H (upd H' a (j4 a)):=λb u hb=>by rw[zj (z0 hb n)];exact sm b u hb
   exact⟨_,_,_,I'.toPen e,(ok.after sm2).put (.pen zl) i,sm2.pers,q⟩
  |ret u=>obtain⟨_,_,_,_,_,z⟩:=z;exact z.elim
  |brk=>obtain⟨_,_,_,z⟩:=z;exact z.elim
  |cont=>obtain⟨_,_,_,z⟩:=z;exact z.elim⟩
def zra(te:DTE)(g:DTG):DTS:=λDn σ=>te σ λd=>g d σ Dn.nx
theorem vc{tg:Expr}{is:List Nat}{g:DTG}(he:DE X e te)(hg:DG X tg is g)(hs:swapsWithSole [tg] e pos.line X.env=pure false:=by rfl)(hw:swappedStores [tg] e X.env=pure none:=by rfl)
  (h1:(assignEach [tg] X.env).map (·.2) = [assign tg X.env]:=by rfl):DS X (.Assign [tg] e pos) (zra te g) :=
 DS.of (zfw he.pe hg.pg hs hw h1) λσ H H₀ σD Dn ok q=>⟨H₀,σD,_,ok,q,λv H1 d s1 r1 q1=>⟨H₀,σD,d,_,ok.after s1,r1,q1,λσ' σD' _ ok' _ q'=>⟨σD',ok',s1.pers,q'⟩⟩⟩
def zrb(i j:Nat)(t:DTF):DTS:=λDn σ=>t σ λds=>match ds with
 |[d,e]=>Dn.nx ((σ.set i (some (.val d))).set j (some (.val e)))
 |_=>False
theorem zkz{i j:Nat}{x y:Str}{a b:Expr}{px py pt:Pos}{kt k2 pt2}(hc:X.calm=true)(hN:X.N.Nodup)(hi:X.N[i]?=some x)(hj:X.N[j]?=some y)(hij:i≠j)
  (hx:X.env.scope.names.lookup x=some .local) (hy:X.env.scope.names.lookup y=some .local) (ha:DA X [a,b] tf)
  (hw:swappedStores [.Tuple [.Name x px,.Name y py] kt pt] (.Tuple [a,b] k2 pt2) X.env=pure (some [x,y]))
  (hs:swapsWithSole [.Tuple [.Name x px,.Name y py] kt pt] (.Tuple [a,b] k2 pt2) pos.line X.env=pure false:=by rfl) :
  DS X (.Assign [.Tuple [.Name x px,.Name y py] kt pt] (.Tuple [a,b] k2 pt2) pos) (zrb i j tf) :=
 DS.of (zpq hc hN hi hj hij hx hy ha.pa hw hs) λσ H H₀ σD Dn ok q=>⟨H₀,σD,_,ok,q,λvs H1 ds s1 r1 q1=>by
  match ds,r1,q1 with
  |[d,e],r1,q1=>
   cases r1 with
   |cons p1 t1=>cases t1 with
    |cons p2 t2=>
     cases t2;exact⟨_,_,rfl,_,((ok.after s1).setV p1 i).setV p2 j,s1.pers,q1⟩⟩
def zk0(i j k:Nat)(t:DTF):DTS:=λDn σ=>t σ λds=>match ds with
 |[d,e,f]=>Dn.nx (((σ.set i (some (.val d))).set j (some (.val e))).set k (some (.val f)))
 |_=>False
theorem znm{i j k:Nat}{x y z:Str}{a b c:Expr}{px py pz pt:Pos}{kt k2 pt2}(hc:X.calm=true)(hN:X.N.Nodup)(hi:X.N[i]?=some x)(hj:X.N[j]?=some y)(hk:X.N[k]?=some z)(hij:i≠j)(hik:i≠k)(hjk:j≠k)
  (hx:X.env.scope.names.lookup x=some .local) (hy:X.env.scope.names.lookup y=some .local) (hz:X.env.scope.names.lookup z=some .local) (ha:DA X [a,b,c] tf)
  (hw:swappedStores [.Tuple [.Name x px,.Name y py,.Name z pz] kt pt] (.Tuple [a,b,c] k2 pt2) X.env=pure (some [x,y,z]))
  (hs:swapsWithSole [.Tuple [.Name x px,.Name y py,.Name z pz] kt pt] (.Tuple [a,b,c] k2 pt2) pos.line X.env=pure false:=by rfl) :
  DS X (.Assign [.Tuple [.Name x px,.Name y py,.Name z pz] kt pt] (.Tuple [a,b,c] k2 pt2) pos) (zk0 i j k tf) :=
 DS.of (zm3 hc hN hi hj hk hij hik hjk hx hy hz ha.pa hw hs) λσ H H₀ σD Dn ok q=>⟨H₀,σD,_,ok,q,λvs H1 ds s1 r1 q1=>by
  match ds,r1,q1 with
  |[d,e,f],r1,q1=>
   cases r1 with
   |cons p1 t1=>cases t1 with
    |cons p2 t2=>cases t2 with
     |cons p3 t3=>
      cases t3;exact⟨_,_,_,rfl,_,(((ok.after s1).setV p1 i).setV p2 j).setV p3 k,s1.pers,q1⟩⟩
def znn(i:Nat)(f:Int->Int->Int)(te:DTE):DTS:=λDn σ=>match σ[i]? with
 |some (some (.val (.int a)))=>te σ λd=>match d with
  |.int b=>Dn.nx (σ.set i (some (.val (.int (f a b)))))
  |_=>False
 |_=>False
theorem zgm{i:Nat}{x:Str}{op:Operator}{f:Int->Int->Int}{pos':Pos}(ho:PIp X op (ipI f))(hN:X.N.Nodup)(hi:X.N[i]?=some x)(hx:Loc X.env.scope x)(he:DE X e te)(hf:X.fn x=true\/X.env.scope.names.lookup x=some .local:=by first|exact .inl rfl|exact .inr rfl|assumption):
  DS X (.AugAssign (.Name x pos') op e pos) (znn i f te) :=
 DS.of (zjk hN hi hx he.pe ho hf) λσ H H₀ σD Dn ok q=>by
  unfold znn at q
  split at q
  ·next a e=>
   obtain⟨v,e1,r⟩:=ok.val e
   cases r;refine⟨_,e1,H₀,σD,_,ok,q,λw H1 d s1 r1 q1=>?_⟩
   cases d with
   |int b=>cases r1;exact⟨a,b,rfl,rfl,_,(ok.after s1).setV .int i,s1.pers,q1⟩
   |_=>exact q1.elim
  ·exact q.elim
def dIf(c:DTT)(t u:DTS):DTS:=λDn σ=>c σ λb=>if b=true then t Dn σ else u Dn σ
theorem yk{c:Expr}{a b:List Stmt}{tc:DTT}(hc:DT X c tc)(ha:DSs X a t)(hb:DSs X b u):DS X (.If c a b pos) (dIf tc t u):=⟨λpins s σ H H₀ σD Dn I ok q=>by
 refine wpAny_If (thn (hc.run pins s σ H H₀ σD _ I ok q) λd s1 zr3=>?_);obtain⟨H1,I1,sm,q1⟩:=zr3
 cases d with
 |true=>exact thn (ha.run pins s1 σ H1 H₀ σD Dn I1 (ok.after sm) (by simpa using q1)) λ_ _ z=>z.back sm.pers
 |false=>exact thn (hb.run pins s1 σ H1 H₀ σD Dn I1 (ok.after sm) (by simpa using q1)) λ_ _ z=>z.back sm.pers⟩
def zk1(c:DTT)(tb:DTS):DTS:=λDn σ=>∃Wv:Nat->DSt->Prop,(∃m,Wv m σ)/\∀m σ,Wv m σ->c σ λb=>if b=true then tb { Dn with nx:=λσ'=>∃m',m' < m/\Wv m' σ',ct:=λσ'=>∃m',m' < m/\Wv m' σ',bk:=Dn.nx } σ else Dn.nx σ
theorem zbo{c:Expr}{body:List Stmt}{tc:DTT}{tb:DTS}(hp:PassesOwn (model X.prog X.w) X.A X.env X.xe)(hc:DT X c tc)(hb:DSs X body tb):DS X (.While c body [] pos) (zk1 tc tb) :=
 DS.of (zjm hp hc.pt hb.ps) λσ H H₀ σD Dn ok q=>by
  obtain⟨Wv,⟨m0,w0⟩,turn⟩:=q;refine⟨λm σ' H'=>∃σD',DOk X.K H₀ H' σD' σ'/\Pers H H'/\Wv m σD',⟨m0,σD,ok,Pers.refl _,w0⟩,?_⟩;rintro m σ' H' ⟨σD',ok',p',w'⟩;refine⟨H₀,σD',_,ok',turn m σD' w',λb H1 s1 q1=>?_⟩
  cases b with
  |true=>
   rw[if_pos rfl]at q1 ⊢;refine⟨λσ2 H2=>∃σD2,DOk X.K H₀ H2 σD2 σ2/\Pers H H2/\∃m',m' < m/\Wv m' σD2,λσ2 H2 zq95=>by obtain⟨σD2,ok2,p2,m',hm,w2⟩:=zq95;exact⟨m',hm,σD2,ok2,p2,w2⟩,H₀,σD',_,ok'.after s1,q1,λσ2 H2 σD2 ok2 p2 n2=>⟨σD2,ok2,(p'.trans s1.pers).trans p2,n2⟩,λv H2 r sm rp qr=>⟨r,sm,rp,qr⟩,λσ2 H2 σD2 ok2 p2 n2=>⟨σD2,ok2,(p'.trans s1.pers).trans p2,n2⟩,λσ2 H2 σD2 ok2 p2 n2=>⟨σD2,ok2,(p'.trans s1.pers).trans p2,n2⟩⟩
  |false=>
   rw[if_neg Bool.false_ne_true]at q1 ⊢;exact⟨σD',ok'.after s1,p'.trans s1.pers,q1⟩
theorem j6{c:DTT}{tb:DTS}{Dn:xu}{σ:DSt}(Wv:Nat->DSt->Prop)(m0:Nat)(h0:Wv m0 σ)
  (hs:∀m σ (N:DSt->Prop),Wv m σ->(∀m' σ',m' < m->Wv m' σ'->N σ')->c σ λb=>if b=true then tb { Dn with nx:=N,ct:=N,bk:=Dn.nx } σ else Dn.nx σ):zk1 c tb Dn σ :=
 ⟨Wv,⟨m0,h0⟩,λm σ w=>hs m σ _ w λm' σ' h w'=>⟨m',h,w'⟩⟩
def zcb(g:DTG)(tb:DTS)(Dn:xu):List D->DSt->Prop
 |[],σ=>Dn.nx σ
 |d::ds,σ=>g d σ λσ2=>tb { Dn with nx:=zcb g tb Dn ds,ct:=zcb g tb Dn ds,bk:=Dn.nx } σ2
theorem w5{g:DTG}{tb:DTS}{Dn:xu}(Iv:List D->DSt->Prop)(hs:∀d ds σ (N:DSt->Prop),Iv (d::ds) σ->(∀σ',Iv ds σ'->N σ')->g d σ λσ2=>tb { Dn with nx:=N,ct:=N,bk:=Dn.nx } σ2)(hd:∀σ,Iv [] σ->Dn.nx σ):∀{ds:List D}{σ:DSt},Iv ds σ->zcb g tb Dn ds σ
 |[],σ,h=>hd σ h
 |d::ds,σ,h=>hs d ds σ _ h λσ' h'=>w5 Iv hs hd h'
def zrc(ti:DTF)(g:DTG)(tb:DTS):DTS:=λDn σ=>ti σ λds=>zcb g tb Dn ds σ
theorem zbp{tg iter:Expr}{body:List Stmt}{ti:DTF}{is:List Nat}{g:DTG}{tb:DTS}(hp:PassesOwn (model X.prog X.w) X.A X.env X.xe)(hc:X.calm=true)(hi:DI X tg iter ti)(hg:DG X tg is g)(hb:DSs X body tb)
  (hs:∀x,foldedSetIterable iter X.env x=pure x:=by intro _;rfl):DS X (.For tg iter body [] pos) (zrc ti g tb) :=
 DS.of (zpt hp hc hi.pi hg.pg hb.ps hs) λσ H H₀ σD Dn ok q=>⟨H₀,σD,_,ok,q,λJ H1 ds s1 it q1=>by
  have sub:∀{i:Nat}{d:D}{σ':DSt},ds[i]?=some d->zcb g tb Dn (ds.drop i) σ'=g d σ' (λσ2=>tb { Dn with nx:=zcb g tb Dn (ds.drop (i+1)),ct:=zcb g tb Dn (ds.drop (i+1)),bk:=Dn.nx } σ2):=λ{i d σ'} e=>by
   obtain⟨hi,e'⟩:=List.getElem?_eq_some_iff.mp e;rw[List.drop_eq_getElem_cons hi,e'];rfl
  refine⟨λi m σ' H'=>m=ds.length-i/\i<=ds.length/\Pers H1 H'/\∃σD',DOk X.K H₀ H' σD' σ'/\zcb g tb Dn (ds.drop i) σD',⟨ds.length,rfl,Nat.zero_le _,Pers.refl _,σD,ok.after s1,q1⟩,?_⟩;rintro i m σ' H' ⟨rfl,hi,pr,σD',ok',q'⟩
  by_cases hlt:i<ds.length
  ·have e:ds[i]?=some ds[i]:=by simp[hlt]
   obtain⟨go,yl⟩:=it.go H' i ds[i] pr e;rw[sub e]at q';refine .inr ⟨go,λσ2 H2=>Pers H1 H2/\∃σD2,DOk X.K H₀ H2 σD2 σ2/\zcb g tb Dn (ds.drop (i+1)) σD2,λσ2 H2 zq18=>by obtain⟨p2,σD2,ok2,q2⟩:=zq18;exact⟨ds.length-(i+1),by omega,rfl,hlt,p2,σD2,ok2,q2⟩,λx H2 y=>?_⟩;obtain⟨s2,r2⟩:=yl x H2 y;have p2:=pr.trans s2.pers;refine⟨H₀,σD',ds[i],_,ok'.after s2,r2,q',λσ3 σD3 _ ok3 _ q3=>?_⟩;exact⟨H₀,σD3,_,ok3,q3,λσ4 H4 σD4 ok4 p4 q4=>⟨p2.trans p4,σD4,ok4,q4⟩,λv H4 r sm rp qr=>⟨r,sm,rp,qr⟩,λσ4 H4 σD4 ok4 p4 q4=>⟨σD4,ok4,(s1.pers.trans p2).trans p4,q4⟩,λσ4 H4 σD4 ok4 p4 q4=>⟨p2.trans p4,σD4,ok4,q4⟩⟩
  ·have e:i=ds.length:=by omega
   subst e;rw[List.drop_length]at q';exact .inl ⟨it.stop H' pr,σD',ok',s1.pers.trans pr,q'⟩⟩
variable {ta tb:DTE}
def zno(i:Nat)(te:DTE):DTS:=λDn σ=>match σ[i]? with
 |some (some (.own (.lst xs)))=>te σ λd=>xs.length<sizeLine/\Dn.nx (clr (σ.set i (some (.own (.lst (xs ++ [d]))))))
 |_=>False
theorem j7(i:Nat){x:Str}{p1 apos cpos:Pos}(he:DE X e te)(hN:X.N[i]?=some x:=by rfl)(hv:Vis X.env.scope x:=by first|exact Or.inl rfl|exact Or.inr (Or.inl rfl)|exact Or.inr (Or.inr rfl))(hd:(x ==("__debug__" : Str))=false:=by decide)
  (hcd:(x ==("__classdict__" : Str))=false:=by decide)
  (hbase:attributeBase (.Name x p1) "append" X.env (eval (.Name x p1) X.env)=eval (.Name x p1) X.env:=by rfl)
  (hfew:((backTo cpos (starEach (e :: []) X.env)).all (λx=>!x.1) && (backToKw cpos (keywordEach [] X.env)).all (λx=>x.1.isSome)
   && decide ((e :: []).length+([]:List Keyword).length+(if ([]:List Keyword).isEmpty then 0 else 1)<30))=true:=by rfl)
  (hline:(apos.endLine == cpos.line)=true:=by rfl) (hst:starEach (e :: []) X.env=(false,eval e X.env)::starEach [] X.env:=by rfl) (hplain:(backTo cpos (starEach [] X.env)).any (·.1)=false:=by rfl)
  (hs:swapsWith (.Call (.Attribute (.Name x p1) "append" apos) [e] [] cpos) none pos.line X.env=pure false:=by rfl):DS X (.Expr (.Call (.Attribute (.Name x p1) "append" apos) [e] [] cpos) pos) (zno i te) :=
 DS.of (zhb (zjx PySem.F.plainAttrs_list PySem.F.slot_list_append PySem.F.type_list_append zcv (yp (i:=i) hN hv hd hcd) (yu he.pe xy hst) hbase hfew hline hst hplain) hs) λσ H H₀ σD Dn ok q=>by
  unfold zno at q
  split at q
  ·next xs eo=>
   obtain⟨a,vs,e1,e2,r,n⟩:=ok.ownL eo;refine⟨.ref a,e1,.inl ⟨rfl,vs,SqL.of e2⟩,H₀,σD,_,ok,q,λv H1 d s1 r1 q1=>?_⟩;refine⟨a,vs,v,rfl,rfl,s1 _ _ e2,by rw[<-r.length];exact q1.1,_,(ok.after s1).write eo e1 (s1 _ _ e2) ((r.same s1).append (.cons r1 .nil)),s1.pers.trans (y9 (s1 _ _ e2) rfl),q1.2⟩
  ·exact q.elim
end
def qc(N:List Str)(ws:List W):DSt:=ws.map some++List.replicate (N.length-ws.length) none
section
variable {P:Program}{w:World}{K:PySem.W.Frag}{mg:Str->Option Value}{base:Heap}
theorem DOk.begin{H:Hp}{ws:List W}{vs:List V}(r:RepWs K H ws vs)(N:List Str):DOk K H H (qc N ws) (start N vs):=by
 refine⟨Same.refl _,[],?_,List.nodup_nil,λa ha=>by cases ha⟩;unfold qc start;rw[<-r.length];generalize N.length-ws.length=n;have rep:∀n:Nat,Slots K H H (List.replicate n none) (List.replicate n none) []:=λn=>by
  induction n with
  |zero=>exact .nil
  |succ n ih=>exact .none ih
 induction r with
 |nil=>exact rep n
 |@cons w' v ws vs r t ih=>
  cases w' with
  |val d=>exact .val r ih
  |vw xs=>exact .vw r ih
  |vd xs=>exact .vd r ih
  |exc xs=>exact .exc r ih
  |scr ns=>obtain⟨a,rfl,r⟩:=r;exact .scr r ih
  |pen=>obtain⟨a,rfl,r⟩:=r;exact .pen r ih
  |tmp d=>exact r.elim
  |own o=>exact r.elim
theorem Fun.dok{x qual:Str}{st:Stmt}{f:Addr}{fd:FuncData}{N ps:List Str}{k:Nat}{sp:DSp}(F:Fun K x qual st f fd)(S:zp N ps (zi st))(len:∀ws Q,sp ws Q->ws.length=ps.length)
  (hbody:∀(cdv:Value) (A:Around) (outer:List Env) (s:Shared) (H:Hp) (ws:List W) (Q:Ret->Prop) (E:XK),Room k (A.deeper (envOfC qual (zi st) s.heap.objs.size f cdv))->sp ws Q ->
   ∃t,DSs (zek CX0 P w K mg base N qual (zi st) f cdv A outer s H E).nox (yv st) t/\t { nx:=λ_=>Q (.val .none),rt:=Q } (qc N ws)):FnOk P w K mg base CX0 (k+1) f fd ps (zq K sp):=by
 refine F.ok S (λvs H Q E h=>?_) λcdv A outer s H vs Q E hr h=>?_
 ·obtain⟨ws,QD,r,q,_⟩:=h;rw[<-r.length];exact len ws QD q
 ·obtain⟨ws,QD,r,q,kk⟩:=h;obtain⟨t,ht,hq⟩:=hbody cdv A outer s H ws QD E hr q;refine⟨_,ht.ps,H,_,_,DOk.begin r N,hq,λσ' H' σD' ok' p' q'=>kk .non H' (.val .none) ok'.same .non q',λv H' r' sm rp qr=>kk v H' r' sm rp qr,λ_ _ _ _ _ z=>z.elim,λ_ _ _ _ _ z=>z.elim⟩
end
def zk2:Sp:=λvs H Q _=>∃(p:Addr) (m:Int),vs = [.ref p,.int m]/\0<m/\m<10000000000000000000000000000000000000000000000000000000000000/\Pen H p/\∀(v:Int) H',0<=v->v<m->Pen H' p->But p H H'->Q (.int v) H'
def y3:DSp:=λws Q=>∃m:Int,ws = [.pen,.val (.int m)]/\0<m/\m<10000000000000000000000000000000000000000000000000000000000000/\∀v:Int,0<=v->v<m->Q (.val (.int v))
theorem zrd{P:Program}{w:World}{K:PySem.W.Frag}{mg:Str->Option Value}{base:Heap}{k:Nat}{f:Addr}{fd:FuncData}{ps:List Str}(F:FnOk P w K mg base CX0 k f fd ps zk2):FnOk P w K mg base CX0 k f fd ps (zq K y3):=by
 refine⟨λvs H Q E h=>?_,λA outer s H args us vs Q E hr e0 hb hv hs=>?_⟩
 ·obtain⟨ws,QD,rw',⟨m,rfl,hm,hM,q⟩,kk⟩:=h
  cases rw' with
  |cons r1 t=>cases t with
   |cons r2 t=>
    cases t;obtain⟨p,rfl,hp⟩:=r1;have r2:Rep K H (.int m) _:=r2
    cases r2;exact F.len [.ref p,.int m] (upd H p (.lst [.int 0,.int 0,.int 0])) (λ_ _=>True) E ⟨p,m,rfl,hm,hM,⟨0,0,0,zl⟩,λ_ _ _ _ _ _=>trivial⟩
 ·obtain⟨ws,QD,rw',⟨m,rfl,hm,hM,q⟩,kk⟩:=hs
  cases rw' with
  |cons r1 t=>cases t with
   |cons r2 t=>
    cases t;obtain⟨p,rfl,hp⟩:=r1;have r2:Rep K H (.int m) _:=r2
    cases r2;obtain⟨⟨x,y,z,tx,ty,tz,n,e⟩,_,_⟩:=e0.hok p _ hp;have mu:Mut (H p):=by rw[hp];exact trivial
    have hok1:HOk P w (upd H p (.lst [.int x,.int y,.int z])) s.heap:=e0.hok.write (h':=s.heap) mu (.inl rfl) (λb u _ q=>q) ⟨_,e⟩ ⟨by show 3<=sizeLine;decide,[_,_,_],n,.cons ⟨_,rfl⟩ (.cons ⟨_,rfl⟩ (.cons ⟨_,rfl⟩ .nil)),e⟩;have nn:∀b,H b=none->b≠p:=λb h z=>by rw[z,hp]at h;cases h
    have e1:Env0 P w K mg base A outer s (upd H p (.lst [.int x,.int y,.int z])):=⟨e0.frames,e0.mod,λb o h=>⟨(e0.bs b o h).1,by rw[zj (nn b (e0.bs b o h).2)];exact(e0.bs b o h).2⟩,e0.bsz,e0.funs,λb hb=>by rw[zj (nn b (e0.frf b hb))];exact e0.frf b hb,hok1,e0.bare⟩
    refine codeAny_mono (F.run A outer s _ args us [.ref p,.int m] (λv H'=>∃i,v=.int i/\0<=i/\i<m/\Pen H' p/\But p (upd H p (.lst [.int x,.int y,.int z])) H') E hr e1 hb hv ⟨p,m,rfl,hm,hM,⟨x,y,z,zl⟩,λv H' h1 h2 h3 h4=>⟨v,rfl,h1,h2,h3,h4⟩⟩) λr s' z=>?_
    cases r with
    |error e=>exact z
    |ok fl=>
     cases fl with
     |ret u=>
      obtain⟨v,H',os,bare,un,hok',rv,i,rfl,h1,h2,⟨a',b',c',hp'⟩,bt⟩:=z;obtain⟨zz,its,n',r',e'⟩:=hok' p _ hp';have pk:∃(x y z:Int) (tx ty tz:Tok),its = [.int x tx,.int y ty,.int z tz]:=by
       cases r' with
       |cons r1 r=>cases r with
        |cons r2 r=>cases r with
         |cons r3 r=>
          cases r;obtain⟨t1,rfl⟩:=r1;obtain⟨t2,rfl⟩:=r2;obtain⟨t3,rfl⟩:=r3;exact⟨_,_,_,_,_,_,rfl⟩
      obtain⟨x',y',z',tx',ty',tz',rfl⟩:=pk;have np:∀{b:Addr}{u:HO},H b=some u->u≠j4 p->b≠p:=λ{b u} h n z=>by rw[z,hp]at h;cases h;exact n rfl
      have hpen:∀{b:Addr},b≠p->upd H' p (j4 p) b=H' b:=λh=>zj h;refine⟨.int i,upd H' p (j4 p),os,bare,⟨λb o h n'=>un.keep b o h (by rw[zj (nn b n')];exact n'),λb o h n'=>un.slot b o h (by rw[zj (nn b n')];exact n'),λb o h n' hx=>?_,un.there,λb xs h=>?_,λb o u h=>?_,λb ps h=>?_⟩,?_,rv,kk (.int i) _ (.val (.int i)) (λb o h=>?_) (show Rep K _ (.int i) (.int i) from .int) (q i h1 h2)⟩
      ·rw[hpen (nn b n')];exact un.free b o h (by rw[zj (nn b n')];exact n') hx
      ·have nb:=np h (by unfold j4;intro z;cases z);rw[hpen nb];exact un.tups b xs (by rw[zj nb];exact h)
      ·have nb:=np h (by unfold j4;intro z;cases z);rw[hpen nb];exact un.frzs b o u (by rw[zj nb];exact h)
      ·have nb:=np h (by unfold j4;intro z;cases z);obtain⟨more,e2⟩:=un.tbls b ps (by rw[zj nb];exact h);exact⟨more,by rw[hpen nb];exact e2⟩
      ·exact hok'.write (h':=s'.heap) (by rw[hp'];exact trivial) (.inl rfl) (λb u _ q=>q) ⟨_,e'⟩ (zhi e')
      ·by_cases hb:b=p
       ·subst hb;rw[hp]at h
        cases h;exact zl
       ·rw[zj hb];exact bt b o hb (by rw[zj hb];exact h)
     |next=>exact z
     |brk=>exact z
     |cont=>exact z
section
variable {prog:Program}{w:World}{A:Around}{E:Value->Shared->Prop}{s:Shared}
theorem zc2{it t:Addr}{items:Array Value}(hne:t≠it):∀(n i:Nat) (s:Shared) (Q:List Value->Shared->Prop),s.heap.IsListIter it t i->s.heap.IsList t items->i+n<=items.size ->
  (∀h',h'.IsListIter it t (i+n)->Heap.SameBut it s.heap h'->Q ((items.toList.drop i).take n) { s with heap:=h' })->wpAny (model prog w) A (draw (.ref it) n) Q E s
 |0,i,s,Q,hit,_,_,hQ=>by
  show wpAny _ _ (pure []) Q E s;exact wpAny_pure (by simpa using hQ s.heap hit (Heap.SameBut.refl ..))
 |n+1,i,s,Q,hit,ht,hle,hQ=>by
  have hlt:i<items.size:=by omega
  show wpAny _ _ (pyNext (.ref it) >>= _) Q E s;refine wpAny_bind (wpAny_pyNext_list_item hit ht (x:=items[i]) (by simp[hlt]) λh₁ hit₁ hs₁=>?_);have ht1:h₁.IsList t items:=by obtain⟨o,e,r⟩:=ht;exact⟨o,(hs₁.2 t hne).trans e,r⟩
  refine wpAny_bind (wpAny_holding (zc2 hne n (i+1) _ _ hit₁ ht1 (by omega) λh₂ hit₂ hs₂=>wpAny_pure ?_));have hd:items.toList.drop i=items[i]::items.toList.drop (i+1):=by simp[List.drop_eq_getElem_cons,hlt]
  have:=hQ h₂ (by rw[show i+(n+1)=i+1+n by omega];exact hit₂) (hs₁.trans hs₂);rw[hd,List.take_succ_cons]at this;exact this
theorem j8{t:Addr}{items:Array Value}{Q:List Value->Shared->Prop}(hh:A.handled=none)(ht:s.heap.IsList t items)
  (hQ:∀h',Heap.ExtBut s.heap.objs.size s.heap h'->Q items.toList { s with heap:=h' }):wpAny (model prog w) A (unpackItems (.ref t) items.size none) Q E s:=by
 have hlt:t≠s.heap.objs.size:=by obtain⟨o,ho,_⟩:=ht;exact Nat.ne_of_lt (Heap.lt_size ho)
 have push:∀o:Obj,(s.heap.push o).IsList t items:=λo=>by obtain⟨o',e,r⟩:=ht;exact⟨o',Heap.get?_push_of_some _ e,r⟩
 unfold unpackItems;refine wpAny_bind ?_
 ·unfold notIterableAtAll;refine wpAny_bind (wpAny_specialOf ht.typeIs slot_list_iter.lookup ?_);refine wpAny_pure ?_;simp only[Bool.false_eq_true,if_false];refine wpAny_bind (wpAny_holding (wpAny_pyIter_list ht ?_));refine wpAny_bind (wpAny_holding (zc2 hlt items.size 0 _ _ ⟨_,Heap.get?_push_size _ rfl,rfl,rfl⟩ (push _) (by omega) λh₁ hit₁ hs₁=>?_))
  have hall:List.take items.size (List.drop 0 items.toList)=items.toList:=by
   rw[List.drop_zero];exact List.take_of_length_le (by simp)
  rw[hall];rw[if_neg (by simp)];have ht₁:h₁.IsList t items:=by obtain⟨o',e,r⟩:=push { cls:=.type "list_iterator",data:=.fields #[.ref t,.int 0 0] };exact⟨o',(hs₁.2 t hlt).trans e,r⟩
  refine wpAny_bind (wpAny_holding (wpAny_pyNext_list_end hh hit₁ ht₁ (by simp) λh₂ he₂=>?_));simp only[Option.isSome_none,Bool.false_eq_true,if_false];refine wpAny_pure (hQ h₂ λb o hb e=>he₂ b o hb (hs₁.extBut b o hb (Heap.get?_push_of_some _ e)))
theorem jj{env:Env}{elts:List Expr}{x1}{pos:Pos}{t:Addr}{items:Array Value}{Q:Unit->Shared->Prop}(hh:A.handled=none)(ht:s.heap.IsList t items)
  (hn:(assignEach elts env).length=items.size) (hstar:(assignEach elts env).findIdx? (·.1)=none)
  (h:∀h',Heap.ExtBut s.heap.objs.size s.heap h'->wpAny (model prog w) A (assignInOrder ((assignEach elts env).map (·.2)) items.toList) Q E { s with heap:=h' }) :
  wpAny (model prog w) A (assign (.Tuple elts x1 pos) env (.ref t)) Q E s:=by
 rw[assign_Tuple];refine wpAny_bind (wpAny_standAt ?_);unfold unpack;rw[hn,hstar];exact wpAny_bind (wpAny_holding (j8 hh ht h))
end
section
variable {X:Cx}{tg iter e:Expr}{es:List Expr}{te:DTE}{tf:DTF}{p pos:Pos}
def zk3(n:Nat)(gs:zdq):DTG:=λd σ Q=>match d with
 |.tuple xs=>xs.length=n/\gs xs σ Q
 |.list xs=>xs.length=n/\gs xs σ Q
 |_=>False
theorem xk{k:Nat}{is:List Nat}{gs:zdq}{n:Nat}(hc:X.calm=true)(h:DGs X es is gs)(hn:(assignEach es X.env).length=n:=by rfl)(hst:(assignEach es X.env).findIdx? (·.1)=none:=by rfl):DG X (.Tuple es k pos) is (zk3 n gs):=⟨λpins s σ H H₀ σD v u d Q I ok r rp q=>by
 cases d with
 |tuple xs=>exact(zq5 (k:=k) (pos:=pos) hc h hn hst).run pins s σ H H₀ σD v u _ Q I ok r rp q
 |list xs=>
  obtain⟨hl,q⟩:=q
  cases rp with
  |lst hq rr=>
   cases r;obtain⟨its,rv,ht,hz⟩:=I.list (.inl (.inr ⟨_,hq⟩));refine jj (I.ok.hd hc) ht.isList (by simp[hn,<-hl,<-rv.length,rr.length]) hst λh' hx=>?_;have I1:Inv X pins σ H { s with heap:=h' }:=I.kept (t':=s.toks) λb o e=>hx b o (Nat.ne_of_lt (Heap.lt_size e)) e;exact h.run pins _ σ H H₀ σD _ _ xs Q I1 ok (by simpa using rv) rr q
 |_=>exact q.elim⟩
variable {elt:Expr}{ifs:List Expr}{scope:Scope}{cl:List (Str×Addr)}{N' capt:List Str}{k:Nat}{js is:List Nat}{ti:DTF}{g:DTG}{tt:DTT}
inductive RepRs(K:PySem.W.Frag):Hp->Hp->List Ret->List V->Prop
 |nil {H H':Hp} (s:Same H H'):RepRs K H H' [] []
 |val {H H1 H':Hp}{d:D}{v:V}{rs:List Ret}{vs:List V} (s:Same H H1) (r:Rep K H1 d v) (t:RepRs K H1 H' rs vs):RepRs K H H' (.val d::rs) (v::vs)
 |new {H H1 H':Hp}{xs:List D}{a:Addr}{ws:List V}{rs:List Ret}{vs:List V} (s:Same H H1) (n:H a=none) (e:H1 a=some (.lst ws)) (r:Reps K H1 xs ws) (t:RepRs K H1 H' rs vs):RepRs K H H' (.new xs::rs) (.ref a::vs)
theorem RepRs.more{K:PySem.W.Frag}{H H':Hp}{rs:List Ret}{vs:List V}(h:RepRs K H H' rs vs){H2:Hp}(s2:Same H' H2):RepRs K H H2 rs vs:=by
 induction h with
 |nil s=>exact .nil (s.trans s2)
 |val s r _ ih=>exact .val s r (ih s2)
 |new s n e r _ ih=>exact .new s n e r (ih s2)
theorem RepRs.length{K:PySem.W.Frag}{H H':Hp}{rs:List Ret}{vs:List V}(h:RepRs K H H' rs vs):rs.length=vs.length:=by
 induction h with
 |nil s=>rfl
 |val s _ _ ih=>simp[ih]
 |new s _ _ _ _ ih=>simp[ih]
def Ret.w:Ret->W
 |.val d=>.val d
 |.new xs=>.own (.lst xs)
def zo4:List Nat->List V->St->St
 |i::is,v::vs,σ=>zo4 is vs (σ.set i (some v))
 |_,_,σ=>σ
abbrev DTM:=DSt->(List Ret->Prop)->Prop
structure DM(X:Cx)(es:List Expr)(t:DTM):Prop where
 run:∀(pos:Pos) (pins:List (Addr×Obj)) (s:Shared) (σ:St) (H H₀:Hp) (σD:DSt) (Q:List Ret->Prop),Inv X pins σ H s->DOk X.K H₀ H σD σ->t σD Q ->
  wpAny (model X.prog X.w) X.A (spliced (backTo pos (starEach es X.env))) (λus s'=>∃vs H' rs,Inv X pins σ H' s'/\Vals vs us/\RepRs X.K H H' rs vs/\Q rs) X.xe s
structure DGN(X:Cx)(es:List Expr)(is:List Nat):Prop where
 pgs:PGs X es (λvs σ H Q=>vs.length=is.length/\Q (zo4 is vs σ) H)
section
variable {pins:List (Addr×Obj)}{σ:St}{H:Hp}{s:Shared}
end
def ztq(X:Cx)(pins:List (Addr×Obj))(σ:St)(H:Hp)(Q:D->Prop)(u:Value)(s':Shared):Prop:=∃v H' d,Inv X pins σ H' s'/\RelV v u/\Same H H'/\RepN X.K H' d v/\Q d
structure DN(X:Cx)(e:Expr)(t:DTE):Prop where
 run:∀(pins:List (Addr×Obj)) (s:Shared) (σ:St) (H H₀:Hp) (σD:DSt) (Q:D->Prop),Inv X pins σ H s->DOk X.K H₀ H σD σ->t σD Q->wpAny (model X.prog X.w) X.A (eval e X.env) (ztq X pins σ H Q) X.xe s
structure DAn(X:Cx)(es:List Expr)(t:DTF):Prop where
 run:∀(pos:Pos) (pins:List (Addr×Obj)) (s:Shared) (σ:St) (H H₀:Hp) (σD:DSt) (Q:List D->Prop),Inv X pins σ H s->DOk X.K H₀ H σD σ->t σD Q ->
  wpAny (model X.prog X.w) X.A (spliced (backTo pos (starEach es X.env))) (λus s'=>∃vs H' ds,Inv X pins σ H' s'/\Vals vs us/\Same H H'/\RepNs X.K H' ds vs/\Q ds) X.xe s
theorem DN.of{t:DTE}{t':TE}(h:PE X e t')(k:∀σ H H₀ σD QD,DOk X.K H₀ H σD σ->t σD QD->t' σ H (λv H'=>∃d,Same H H'/\RepN X.K H' d v/\QD d)):DN X e t :=
 ⟨λpins s σ H H₀ σD Q I ok q=>thn (h pins s σ H _ I (k σ H H₀ σD Q ok q)) λu s' zq80=>by obtain⟨v,H',I',r,d,sm,rp,qd⟩:=zq80;exact⟨v,H',d,I',r,sm,rp,qd⟩⟩
theorem RepNs.length{K:PySem.W.Frag}{H:Hp}{ds:List D}{vs:List V}(h:RepNs K H ds vs):ds.length=vs.length:=h.ind (P:=λds vs=>ds.length=vs.length) rfl λ_ _ _ _ _ _ j=>congrArg (·+1) j
end
section
variable {X:Cx}{tg iter e:Expr}{es:List Expr}{te:DTE}{tf:DTF}{p pos:Pos}
end
section
variable {prog:Program}{w:World}{A:Around}{E:Value->Shared->Prop}{s:Shared}
end
section
variable {X:Cx}{a:Expr}{t:DTF}{p pos:Pos}
end
theorem zhn{f:D->(Option D->Prop)->Prop}(Pv:D->D->Prop):∀{ds:List D}{Q:List D->Prop},(∀d∈ds,∀k:Option D->Prop,(∀y,Pv d y->k (some y))->f d k)->(∀ys,Paired Pv ds ys->Q ys)->lcD f ds Q
 |[],Q,_,q=>q [] .nil
 |d::ds,Q,h,q=>h d List.mem_cons_self _ λy hy=>zhn Pv (λe he=>h e (List.mem_cons_of_mem _ he)) λys hys=>q (y::ys) (.cons hy hys)
theorem znp{α:Type}{f:D->(Option D->Prop)->Prop}(enc:α->D)(F:α->Option D){as:List α}{Q:List D->Prop}(h:∀a∈as,∀k:Option D->Prop,k (F a)->f (enc a) k)(q:Q (as.filterMap F)):lcD f (as.map enc) Q:=by
 induction as generalizing Q with
 |nil=>exact q
 |cons a as ih=>
  refine h a List.mem_cons_self _ (ih (λe he=>h e (List.mem_cons_of_mem _ he)) ?_);rw[List.filterMap_cons]at q
  cases e:F a with
  |none=>rw[e]at q;exact q
  |some y=>rw[e]at q;exact q
theorem jk{α:Type}{f:D->(Option D->Prop)->Prop}(enc:α->D)(F:α->D){as:List α}{Q:List D->Prop}(h:∀a∈as,∀k:Option D->Prop,k (some (F a))->f (enc a) k)(q:Q (as.map F)):lcD f (as.map enc) Q :=
 znp enc (λa=>some (F a)) h (by rw[List.filterMap_eq_map'];exact q)
theorem zgn{f:D->(Option D->Prop)->Prop}{lo:Int}{n:Nat}{Q:List D->Prop}(Pv:D->Prop)(h:∀d,∀k:Option D->Prop,(∀y,Pv y->k (some y))->f d k)(q:∀ys:List D,ys.length=n->(∀y∈ys,Pv y)->Q ys):lcD f (xz lo n) Q:=by
 refine zhn (λ_ y=>Pv y) (λd _ k hk=>h d k hk) λys hys=>q ys ?_ ?_
 ·have:=Paired.length hys;rw[<-this];simp[xz]
 ·clear q h;generalize xz lo n=ds at hys
  induction hys with
  |nil=>intro y hy;cases hy
  |cons r t ih=>intro y hy;rcases List.mem_cons.mp hy with rfl|hy;exact r;exact ih y hy
theorem znq{α:Type}(x y z:α)(xs:List α):atI (x::y::z::xs) 2=some z:=by
 have:=qv (xs:=x::y::z::xs) (j:=2) (v:=z) rfl;simpa using this
theorem ziz{α:Type}(x y z w:α)(xs:List α):atI (x::y::z::w::xs) 3=some w:=by
 have:=qv (xs:=x::y::z::w::xs) (j:=3) (v:=w) rfl;simpa using this
theorem zo5{xs:List D}{k:Int}{Q:D->Prop}(h0:0<=k)(h1:k<xs.length)(h:∀x∈xs,Q x):∃d,atI xs k=some d/\Q d:=by
 obtain⟨v,e,m⟩:=zj8 h0 h1;exact⟨v,e,h v m⟩
theorem zo6{ns:List Int}{k lo hi:Int}{Q:D->Prop}(h0:0<=k)(h1:k<ns.length)(hb:∀n∈ns,lo<=n/\n<=hi)(h:∀n:Int,lo<=n->n<=hi->Q (.int n)):∃d,atI (ns.map PyData.int) k=some d/\Q d :=
 zo5 h0 (by simpa using h1) λx hx=>by
  obtain⟨n,hn,rfl⟩:=List.mem_map.mp hx;exact h n (hb n hn).1 (hb n hn).2
theorem zgo{α:Type}(enc:α->D)(xs:List α)(lo hi:Option Int):∃ys:List α,zbn (xs.map enc) lo hi=ys.map enc/\(∀y∈ys,y∈xs)/\ys.length<=xs.length:=by
 refine⟨(xs.drop (HT.sIx xs.length 0 lo)).take (HT.sIx xs.length xs.length hi-HT.sIx xs.length 0 lo),?_,λy hy=>List.mem_of_mem_drop (List.mem_of_mem_take hy),?_⟩
 ·unfold zbn;rw[List.length_map,List.map_take,List.map_drop]
 ·rw[List.length_take,List.length_drop];omega
structure Sh(d:D)(n k:Nat):Prop where
 can:d.canLay0=true
 sho:d.showable=true
 dep:d.depth<=k
 len:d.shown.length<=n
theorem Sh.mono{d:D}{n k n' k':Nat}(h:Sh d n k)(h1:n<=n')(h2:k<=k'):Sh d n' k':=⟨h.can,h.sho,Nat.le_trans h.dep h2,Nat.le_trans h.len h1⟩
theorem Sh.none:Sh .none 4 0:=⟨rfl,rfl,Nat.le_refl _,Nat.le_of_ble_eq_true rfl⟩
theorem Sh.bool{b:Bool}:Sh (.bool b) 5 0:=⟨rfl,rfl,Nat.le_refl _,by cases b <;> exact Nat.le_of_ble_eq_true rfl⟩
theorem zre{i:Int}(h:i.natAbs<10 ^ 40):i.natAbs.log2<1920:=by
 by_cases h0:i.natAbs=0
 ·rw[h0];decide
 ·exact(Nat.log2_lt h0).mpr (Nat.lt_of_lt_of_le h (Nat.le_trans (by decide:10 ^ 40<=2 ^ 200) (Nat.pow_le_pow_right (by decide) (by decide))))
theorem Sh.int{i:Int}(h:i.natAbs<10 ^ 40):Sh (.int i) 41 0 :=
 ⟨rfl,by simp only[PyData.showable];exact decide_eq_true (zre h),Nat.le_refl _,by
  have:=int_text_length_le10 (a:=i) (k:=40) (by decide) h;simp only[PyData.shown];show(Str.ofString (toString i)).length<=41;rw[PySem.ofString_length];exact this⟩
theorem Sh.intB{i:Int}(h1 : -1000000000000000000000000000000000000000<=i)(h2:i<=1000000000000000000000000000000000000000):Sh (.int i) 41 0:=Sh.int (by omega)
theorem j9:∀{xs:List D}{n k:Nat},(∀x∈xs,Sh x n k)->PyData.canLayAll0 xs=true
 |[],_,_,_=>rfl
 |x::xs,n,k,h=>by simp only[PyData.canLayAll0,(h x List.mem_cons_self).can,j9 λy hy=>h y (List.mem_cons_of_mem _ hy),Bool.and_self]
theorem h7:∀{xs:List D}{n k:Nat},(∀x∈xs,Sh x n k)->PyData.showableAll xs=true
 |[],_,_,_=>rfl
 |x::xs,n,k,h=>by simp only[PyData.showableAll,(h x List.mem_cons_self).sho,h7 λy hy=>h y (List.mem_cons_of_mem _ hy),Bool.and_self]
theorem h8:∀{xs:List D}{n k:Nat},(∀x∈xs,Sh x n k)->PyData.depthAll xs<=k
 |[],_,_,_=>Nat.zero_le _
 |x::xs,n,k,h=>by
  simp only[PyData.depthAll];exact Nat.max_le.mpr ⟨(h x List.mem_cons_self).dep,h8 λy hy=>h y (List.mem_cons_of_mem _ hy)⟩
theorem h9:∀{xs:List D}{n k:Nat},(∀x∈xs,Sh x n k)->((PyData.shownAll xs).map (·.length)).sum<=xs.length * n
 |[],_,_,_=>by simp[PyData.shownAll]
 |x::xs,n,k,h=>by
  simp only[PyData.shownAll,List.map_cons,List.sum_cons,List.length_cons];have h1:=(h x List.mem_cons_self).len;have h2:=h9 λy hy=>h y (List.mem_cons_of_mem _ hy);rw[Nat.succ_mul];omega
theorem xq:∀xs:List D,(PyData.shownAll xs).length=xs.length
 |[]=>rfl
 |x::xs=>by simp only[PyData.shownAll,List.length_cons,xq xs]
theorem Sh.lst{xs:List D}{n k m:Nat}(h:∀x∈xs,Sh x n k)(hl:xs.length<=m):Sh (.list xs) (m *(n+2)+3) (k+1) where
 can:=by simpa[PyData.canLay0]using j9 h
 sho:=by simpa[PyData.showable]using h7 h
 dep:=by simp only[PyData.depth];have:=h8 h;omega
 len:=by
  simp only[PyData.shown];have h1:=listText_len_le (PyData.shownAll xs);have h2:=h9 h;rw[xq]at h1;have h3:xs.length *(n+2)<=m *(n+2):=Nat.mul_le_mul_right _ hl;rw[Nat.mul_add]at h3;omega
theorem Sh.tup{xs:List D}{n k m:Nat}(h:∀x∈xs,Sh x n k)(hl:xs.length<=m):Sh (.tuple xs) (m *(n+2)+3) (k+1) where
 can:=by simpa[PyData.canLay0]using j9 h
 sho:=by simpa[PyData.showable]using h7 h
 dep:=by simp only[PyData.depth];have:=h8 h;omega
 len:=by
  simp only[PyData.shown];have h1:=tupleText_len_le (PyData.shownAll xs);have h2:=h9 h;rw[xq]at h1;have h3:xs.length *(n+2)<=m *(n+2):=Nat.mul_le_mul_right _ hl;rw[Nat.mul_add]at h3;omega
theorem Sh.lay{d:D}{n k:Nat}(h:Sh d n k)(hk:k<=64):Lay d:=by
 unfold Lay SeqAt.shaped;rw[Bool.and_eq_true];exact⟨h.can,decide_eq_true (Nat.le_trans h.dep hk)⟩
theorem Lay.int(i:Int):Lay (.int i):=rfl
theorem Lay.none:Lay .none:=rfl
theorem Lay.bool(b:Bool):Lay (.bool b):=rfl
theorem jl{d:D}(h:Lay d):PyData.eqv d d=true:=SeqAt.eqv_refl d h.can
theorem x0{m:Int}{Q:Ret->Prop}(h1:0<m)(h2:m<10000000000000000000000000000000000000000000000000000000000000)(q:∀v:Int,0<=v->v<m->Q (.val (.int v))):y3 [.pen,.val (.int m)] Q:=⟨m,rfl,h1,h2,q⟩
theorem zho{α:Type}{p:α->Prop}{a:α}{l:List α}(h:p a)(t:∀y∈l,p y):∀y∈a::l,p y:=λy hy=>(List.mem_cons.mp hy).elim (λe=>by rw[e];exact h) (t y)
theorem zrf{α:Type}{p:α->Prop}:∀y∈([]:List α),p y:=λy hy=>by cases hy
section
variable {X:Cx}
end
section
variable {X:Cx}
end
end L2
set_option maxHeartbeats 4000000
namespace PySem
section
variable {prog:Program}{w:World}{A:Around}{R:Result->Shared->Prop}{I:Addr}{fp wr:List Addr}{n:Nat}{P:Nat->Value->Prop}{St:Nat->Heap->Prop}
end
section
variable {prog:Program}{w:World}{A:Around}{E:Value->Shared->Prop}{s:Shared}{l:Addr}{its:Array Value}{d:Value}
end
section
variable {prog:Program}{w:World}{A:Around}{R:Result->Shared->Prop}{I:Addr}{fp wr:List Addr}{n:Nat}{P:Nat->Value->Prop}{St:Nat->Heap->Prop}
end
section
variable {prog:Program}{w:World}{A:Around}{E:Value->Shared->Prop}{s:Shared}{l:Addr}{its:Array Value}{d:Value}
end
end PySem
namespace L2
open PySem PySem.Spec PyProof.Rows
section
variable {X:Cx}{a d e:Expr}{ta:DTF}{td te:DTE}{p pos kp:Pos}
end
theorem zgp(lo:Int)(n:Nat):(xz lo n).length=n:=by simp[xz]
theorem zk4{g:DTG}{tb:DTS}{Dn:xu}{ds:List D}{σ:DSt}(S:DSt->Prop)(h0:S σ)(hs:∀d∈ds,∀σ (N:DSt->Prop),S σ->(∀σ',S σ'->N σ')->g d σ λσ2=>tb { Dn with nx:=N,ct:=N,bk:=Dn.nx } σ2)(hd:∀σ,S σ->Dn.nx σ):zcb g tb Dn ds σ:=by
 refine w5 (λds' σ=>(∀d∈ds',d∈ds)/\S σ) ?_ (λσ h=>hd σ h.2) ⟨λ_ h=>h,h0⟩;rintro d ds' σ N ⟨h1,h2⟩ k;exact hs d (h1 d List.mem_cons_self) σ N h2 λσ' h'=>k σ' ⟨λx hx=>h1 x (List.mem_cons_of_mem _ hx),h'⟩
section
variable {X:Cx}{e:Expr}{p pos:Pos}
end
end L2
namespace SQ
open PySem PyProof.Rows
set_option autoImplicit false
section
variable (prog:Program)(w:World)(A:Around)(s:Shared)(κ:KeyKind)(kd:SortKind)
end
structure SG(kd:SortKind)(a₀:Array Keyed)(st:SortSt):Prop where
 perm:(arrOf st).Perm a₀
 kind:kindOf st=kd
 fail:failedOf st=none
structure Mv(lo hi:Nat)(st st':SortSt):Prop where
 out:∀k,(k<lo\/hi<=k)->(arrOf st')[k]?=(arrOf st)[k]?
 pend:pendingOf st'=pendingOf st
theorem Mv.refl(lo hi:Nat)(st:SortSt):Mv lo hi st st:=⟨λ_ _=>rfl,rfl⟩
theorem Mv.trans{lo hi:Nat}{a b c:SortSt}(h1:Mv lo hi a b)(h2:Mv lo hi b c):Mv lo hi a c:=⟨λk hk=>(h2.out k hk).trans (h1.out k hk),h2.pend.trans h1.pend⟩
theorem Mv.mono{lo hi lo' hi':Nat}{a b:SortSt}(h:Mv lo hi a b)(h1:lo'<=lo)(h2:hi<=hi'):Mv lo' hi' a b:=⟨λk hk=>h.out k (by omega),h.pend⟩
abbrev Up(κ:KeyKind)(xs:Array Keyed)(lo n:Nat):Prop:=∀i j,lo<=i->i<=j->j<lo+n->κ.kle (KK κ xs i) (KK κ xs j)
abbrev Dn(κ:KeyKind)(xs:Array Keyed)(lo n:Nat):Prop:=∀i j,lo<=i->i<=j->j<lo+n->κ.kle (KK κ xs j) (KK κ xs i)
section
variable {prog:Program}{w:World}{A:Around}{E:Value->Shared->Prop}{s:Shared}{κ:KeyKind}{kd:SortKind}{a₀:Array Keyed}
end
end SQ
namespace SQ
open PySem PyProof.Rows
set_option autoImplicit false
section
variable {prog:Program}{w:World}{A:Around}{E:Value->Shared->Prop}{s:Shared}{κ:KeyKind}{kd:SortKind}{a₀:Array Keyed}
theorem Up.next{xs:Array Keyed}{lo n:Nat}(h:Up κ xs lo n)(h1:1<=n)(c:κ.blt (KK κ xs (lo+n)) (KK κ xs (lo+n-1))=false):Up κ xs lo (n+1):=λi j a b d=>by
 by_cases e:j<lo+n
 ·exact h i j a b e
 ·have ej:j=lo+n:=by omega
  subst ej
  by_cases e2:i=lo+n
  ·subst e2;exact KeyOrd.kle_refl _
  ·exact KeyOrd.kle_trans (h i (lo+n-1) a (by omega) (by omega)) c
theorem Dn.next{xs:Array Keyed}{lo n:Nat}(h:Dn κ xs lo n)(h1:1<=n)(c:κ.kle (KK κ xs (lo+n)) (KK κ xs (lo+n-1))):Dn κ xs lo (n+1):=λi j a b d=>by
 by_cases e:j<lo+n
 ·exact h i j a b e
 ·have ej:j=lo+n:=by omega
  subst ej
  by_cases e2:i=lo+n
  ·subst e2;exact KeyOrd.kle_refl _
  ·exact KeyOrd.kle_trans c (h i (lo+n-1) a (by omega) (by omega))
end
end SQ
namespace SQ
open PySem PyProof.Rows
set_option autoImplicit false
section
variable {prog:Program}{w:World}{A:Around}{E:Value->Shared->Prop}{s:Shared}{κ:KeyKind}{kd:SortKind}
end
end SQ
namespace SQ
open PySem PyProof.Rows
set_option autoImplicit false
def kk(κ:KeyKind)(p:Keyed):κ.α:=(κ.keyOf p.1).getD κ.dflt
def le(κ:KeyKind)(x y:Keyed):Prop:=κ.kle (kk κ x) (kk κ y)
theorem le_refl{κ:KeyKind}(x:Keyed):le κ x x:=KeyOrd.kle_refl _
theorem le_trans{κ:KeyKind}{x y z:Keyed}(a:le κ x y)(b:le κ y z):le κ x z:=KeyOrd.kle_trans a b
def AllK(κ:KeyKind)(xs:Array Keyed):Prop:=∀p∈xs.toList,κ.keyOf p.1=some (kk κ p)
abbrev Srt(κ:KeyKind)(xs:Array Keyed):Prop:=xs.toList.Pairwise (le κ)
theorem Srt.at{κ:KeyKind}{xs:Array Keyed}(h:Srt κ xs){i j:Nat}{p r:Keyed}(hij:i<=j)(e1:xs[i]?=some p)(e2:xs[j]?=some r):le κ p r:=by
 obtain⟨l1,rfl⟩:=Array.getElem?_eq_some_iff.mp e1;obtain⟨l2,rfl⟩:=Array.getElem?_eq_some_iff.mp e2
 by_cases c:i=j
 ·subst c;exact le_refl _
 ·have:=List.pairwise_iff_getElem.mp h i j (by simpa using l1) (by simpa using l2) (by omega);simpa using this
structure MI(κ:KeyKind)(a b out:Array Keyed)(ia ib:Nat):Prop where
 perm:out.toList.Perm (a.toList.take ia++b.toList.take ib)
 sort:out.toList.Pairwise (le κ)
 la:∀x∈out.toList,∀y∈a.toList.drop ia,le κ x y
 lb:∀x∈out.toList,∀y∈b.toList.drop ib,le κ x y
theorem zi0{α:Type}{xs:List α}{i:Nat}{p:α}(e:xs[i]?=some p):xs.drop i=p::xs.drop (i+1):=by
 obtain⟨l,rfl⟩:=List.getElem?_eq_some_iff.mp e;exact List.drop_eq_getElem_cons l
section
variable {κ:KeyKind}{a b out:Array Keyed}{ia ib:Nat}
theorem ztr{xs:Array Keyed}{i:Nat}{p:Keyed}(e:xs[i]?=some p):xs.toList[i]?=some p:=by simpa using e
theorem Srt.rest{xs:Array Keyed}(h:Srt κ xs){i:Nat}{p:Keyed}(e:xs[i]?=some p):∀y∈xs.toList.drop i,le κ p y:=by
 have h2:=h.drop (i:=i);rw[zi0 (ztr e)]at h2 ⊢;intro y hy;rcases List.mem_cons.mp hy with rfl|hy
 ·exact le_refl _
 ·exact(List.pairwise_cons.mp h2).1 y hy
def Mg(κ:KeyKind)(a b r:Array Keyed):Prop:=r.toList.Perm (a.toList++b.toList)/\r.toList.Pairwise (le κ)
end
structure Gm(st st':SortSt):Prop where
 k:kindOf st'=kindOf st
 a:arrOf st'=arrOf st
 p:pendingOf st'=pendingOf st
 f:failedOf st'=failedOf st
theorem Gm.refl(st:SortSt):Gm st st:=⟨rfl,rfl,rfl,rfl⟩
theorem Gm.trans{x y z:SortSt}(h:Gm x y)(g:Gm y z):Gm x z:=⟨g.k.trans h.k,g.a.trans h.a,g.p.trans h.p,g.f.trans h.f⟩
section
variable {prog:Program}{w:World}{A:Around}{E:Value->Shared->Prop}{s:Shared}{κ:KeyKind}{kd:SortKind}
end
end SQ
namespace SQ
open PySem PyProof.Rows
set_option autoImplicit false
section
variable {prog:Program}{w:World}{A:Around}{E:Value->Shared->Prop}{s:Shared}{κ:KeyKind}{kd:SortKind}
theorem st5{α β γ δ ε C:Type}{lo hi:Nat}{z:SortSt}{F:α->β->γ->δ->ε->C}{P:Nat->α->β->γ->δ->ε->Prop}{G:Nat->C->SortSt->Prop}(h:∀x,lo<=x->x<hi->∀a b c d e,P x a b c d e->G x (F a b c d e) z):∀x c z',lo<=x->x<hi->(z=z'/\∃a b i d e,c=F a b i d e/\P x a b i d e)->G x c z':=by
 intro x c z' h1 h2 e;obtain⟨rfl,a,b,i,d,e,rfl,p⟩:=e;exact h x h1 h2 a b i d e p
end
end SQ
namespace SQ
open PySem PyProof.Rows
set_option autoImplicit false
structure MH(κ:KeyKind)(a b out:Array Keyed)(na nb:Nat):Prop where
 perm:out.toList.reverse.Perm (a.toList.drop na++b.toList.drop nb)
 sort:out.toList.reverse.Pairwise (le κ)
 la:∀x∈a.toList.take na,∀y∈out.toList.reverse,le κ x y
 lb:∀x∈b.toList.take nb,∀y∈out.toList.reverse,le κ x y
section
variable {κ:KeyKind}{a b out:Array Keyed}{na nb:Nat}
theorem jm(xs:Array Keyed)(n:Nat):(xs.extract 0 n).toList=xs.toList.take n:=by
 rw[Array.toList_extract,List.extract_eq_take_drop,List.drop_zero,Nat.sub_zero]
theorem znr{α:Type}{o x y u v:List α}(h:o.Perm (x++y)):(u++v++o).Perm ((u++x)++(v++y)):=by
 refine(List.Perm.append_left _ h).trans ?_;rw[List.append_assoc,List.append_assoc u x];refine List.Perm.append_left u ?_;rw[<-List.append_assoc,<-List.append_assoc];exact List.Perm.append_right y List.perm_append_comm
theorem MH.first(m:MH κ a b out na nb)(sa:Srt κ a)(sb:Srt κ b)(h:∀x∈b.toList.take nb,∀y∈a.toList,le κ x y):Mg κ a b (b.extract 0 nb++a.extract 0 na++out.reverse):=by
 refine⟨?_,?_⟩
 ·rw[Array.toList_append,Array.toList_append,jm,jm,Array.toList_reverse];have:=znr (u:=b.toList.take nb) (v:=a.toList.take na) (m.perm.trans List.perm_append_comm);rw[List.take_append_drop,List.take_append_drop]at this;exact this.trans List.perm_append_comm
 ·rw[Array.toList_append,Array.toList_append,jm,jm,Array.toList_reverse];refine List.pairwise_append.mpr ⟨List.pairwise_append.mpr ⟨sb.take,sa.take,λx hx y hy=>h x hx y (List.mem_of_mem_take hy)⟩,m.sort,λx hx y hy=>?_⟩;rcases List.mem_append.mp hx with hx|hx
  ·exact m.lb x hx y hy
  ·exact m.la x hx y hy
end
section
variable {prog:Program}{w:World}{A:Around}{E:Value->Shared->Prop}{s:Shared}{κ:KeyKind}{kd:SortKind}
end
end SQ
namespace SQ
open PySem PyProof.Rows
set_option autoImplicit false
section
variable {prog:Program}{w:World}{A:Around}{E:Value->Shared->Prop}{s:Shared}{κ:KeyKind}{kd:SortKind}{a₀:Array Keyed}
theorem AllK.of{xs:Array Keyed}(h:∀p∈xs.toList,∃a,κ.keyOf p.1=some a):AllK κ xs:=λp hp=>by
 obtain⟨a,e⟩:=h p hp;unfold kk;rw[e];rfl
end
end SQ
namespace SQ
open PySem PyProof.Rows
set_option autoImplicit false
section
variable {prog:Program}{w:World}{A:Around}{E:Value->Shared->Prop}{s:Shared}{κ:KeyKind}{kd:SortKind}{a₀:Array Keyed}
end
end SQ
namespace SQ
open PySem PyProof.Rows
set_option autoImplicit false
def Cov(κ:KeyKind)(xs:Array Keyed):Nat->List (Nat×Nat×Nat)->Nat->Prop
 |at_,[],hi=>at_=hi
 |at_,(b,n,_)::r,hi=>b=at_/\1<=n/\Up κ xs at_ n/\Cov κ xs (at_+n) r hi
section
variable {κ:KeyKind}
theorem Cov.le{xs:Array Keyed}:∀{l:List (Nat×Nat×Nat)}{at_ hi:Nat},Cov κ xs at_ l hi->at_+l.length<=hi
 |[],at_,hi,h=>by have:at_=hi:=h;simp;omega
 |(b,n,p)::r,at_,hi,h=>by
  obtain⟨_,h1,_,h2⟩:=h;have:=h2.le;simp only[List.length_cons];omega
end
section
variable {prog:Program}{w:World}{A:Around}{E:Value->Shared->Prop}{s:Shared}{κ:KeyKind}{kd:SortKind}{a₀:Array Keyed}
end
end SQ
namespace SQ
open PySem PyProof.Rows
set_option autoImplicit false
section
variable {prog:Program}{w:World}{A:Around}{E:Value->Shared->Prop}{s:Shared}
end
end SQ
namespace SQ
open PySem PyProof.Rows
set_option autoImplicit false
@[reducible] def zu5:KeyKind where
 α:=Int
 blt a b:=decide (a<b)
 irrefl a:=by simp
 trans a b c h1 h2:=by simp only[decide_eq_true_eq]at *;omega
 negTrans a b c h:=by simp only[decide_eq_true_eq]at *;omega
 total a b h1 h2:=by simp only[decide_eq_false_iff_not]at *;omega
 keyOf v:=match v with|.int i _=>some i|_=>none
 dflt:=0
def RefIs(h:Heap)(v:Value)(is:List Int):Prop:=∃a its,v=.ref a/\IsTup h a its/\IntsAre its.toList is
theorem RefIs.keep{h h':Heap}{v:Value}{is:List Int}(k:∀b o,h.get? b=some o->h'.get? b=some o)(x:RefIs h v is):RefIs h' v is:=by
 obtain⟨a,its,e,t,i⟩:=x;exact⟨a,its,e,t.keeps k,i⟩
open Classical in
noncomputable def refKey (h:Heap) (v:Value):Option (List Int):=if x:∃is,RefIs h v is then some x.choose else none
@[reducible] noncomputable def zuq (h:Heap):KeyKind where
 α:=List Int
 blt a b:=decide (a<b)
 irrefl a:=by simpa using List.lt_irrefl a
 trans a b c h1 h2:=by simp only[decide_eq_true_eq]at *;exact List.lt_trans h1 h2
 negTrans a b c h:=by
  simp only[decide_eq_true_eq]at *
  by_cases c:a<b
  ·exact .inl c
  ·exact .inr (List.lt_of_le_of_lt (List.not_lt.mp c) h)
 total a b h1 h2:=by simp only[decide_eq_false_iff_not]at *;exact List.le_antisymm (List.not_lt.mp h2) (List.not_lt.mp h1)
 keyOf v:=refKey h v
 dflt:=[]
section
variable {prog:Program}{w:World}{A:Around}{E:Value->Shared->Prop}{s:Shared}
end
end SQ
namespace SQ
open PySem PyProof.Rows
set_option autoImplicit false
inductive All2{α β:Type}(R:α->β->Prop):List α->List β->Prop
 |nil:All2 R [] []
 |cons {a:α}{b:β}{as:List α}{bs:List β} (h:R a b) (t:All2 R as bs):All2 R (a::as) (b::bs)
theorem All2.len{α β:Type}{R:α->β->Prop}{as:List α}{bs:List β}(h:All2 R as bs):as.length=bs.length:=by
 induction h with
 |nil=>rfl
 |cons _ _ ih=>simp[ih]
section
variable {prog:Program}{w:World}{A:Around}{E:Value->Shared->Prop}{s:Shared}
end
end SQ
namespace L2
open PySem PySem.Spec PyProof.Rows SQ
section
variable {X:Cx}
end
end L2
namespace L2
open PySem PySem.Spec PyProof.Rows
namespace RV
theorem zur:Manifest.owners.lookup (String.ofList ['d','e','s','r','e','v','e','r'].reverse)=some Manifest.sig_reversed:=by kernel_rfl
theorem sNext:Slot "reversed" "__next__" "reversed.__next__" := .of (owner := "reversed") (n := "__next__") (by rw[typeLookup_type,builtinLookup_eq_fast];kernel_rfl) (by decide +kernel) (by decide +kernel) (by decide +kernel) (by first|exact .inl (by decide +kernel)|exact .inr (by decide +kernel)) (by rw[isSubtype_type];kernel_rfl)
theorem zo7:Slot "reversed" "__iter__" "reversed.__iter__" := .of (owner := "reversed") (n := "__iter__") (by rw[typeLookup_type,builtinLookup_eq_fast];kernel_rfl) (by decide +kernel) (by decide +kernel) (by decide +kernel) (by first|exact .inl (by decide +kernel)|exact .inr (by decide +kernel)) (by rw[isSubtype_type];kernel_rfl)
theorem zts(a:Value):argsOk "reversed.__iter__" ⟨[a],[]⟩:=by
 unfold argsOk;rw[signature?_of (id := "reversed.__iter__") (n:=['_','_','r','e','t','i','_','_']) (o:=['d','e','s','r','e','v','e','r']) (by kernel_rfl) zur];kernel_rfl
theorem ztt:entryFor table "reversed.__iter__" = some Builtin.«dict_keyiterator.__iter__»:=entryFor_alias (id' := "dict_keyiterator.__iter__") (by kernel_rfl) (by first|rfl|decide +kernel |(unfold String.splitOn;simp +decide [String.splitOnAux])) (by decide +kernel) (by kernel_rfl)
end RV
namespace RV
def ob(l:Addr)(i:Int):Obj:={ cls:=.type "reversed",data:=.fields #[.ref l,rawInt i] }
def Is(h:Heap)(a l:Addr)(i:Int):Prop:=∃o,h.get? a=some o/\o.cls=.type "reversed" /\ o.data=.fields #[.ref l,rawInt i]
theorem Is.typeIs{s:Shared}{a l:Addr}{i:Int}(x:Is s.heap a l i):s.TypeIs (.ref a) "reversed" := let ⟨o,ho,hc,_⟩:=x;⟨o,ho,hc⟩
theorem Is.at{h h':Heap}{a l:Addr}{i:Int}(x:Is h a l i)(e:∀o,h.get? a=some o->h'.get? a=some o):Is h' a l i:=let ⟨o,ho,r⟩:=x;⟨o,e _ ho,r⟩
section
variable {prog:Program}{w:World}{A:Around}{E:Value->Shared->Prop}{s:Shared}
theorem iter{it l:Addr}{i:Int}{Q:Value->Shared->Prop}(hit:Is s.heap it l i)(h:Q (.ref it) s):wpAny (model prog w) A (pyIter (.ref it)) Q E s:=by
 refine wpAny_pyIter_slot hit.typeIs zo7 (wpAny_call_entry zo7 hit.typeIs ztt ?_ (zts _));show wpAny _ _ (ret (.ref it)) _ _ s;exact wpAny_pure ⟨_,rfl, "reversed",_,hit.typeIs,sNext.lookup,h⟩
end
end RV
section
variable {X:Cx}{tg a:Expr}{t:DTF}{p pos:Pos}
end
section
variable {X:Cx}{a:Expr}{p pos p2 pos2:Pos}
end
def zus(TI TO:Addr)(old fl:Value):Obj:={ cls:=.type "zip",dict:=none,data:=.fields #[old,fl,.bool false,.ref TI,.ref TO],slots:=#[] }
def IsZ(h:Heap)(z TI TO:Addr)(old fl:Value):Prop:=h.get? z=some (zus TI TO old fl)
def zut(old:Value):Prop:=old=.none\/∃p:Addr,old=rawInt p
section
variable {prog:Program}{w:World}{A:Around}{E:Value->Shared->Prop}{s:Shared}
end
def ZSt(b1 b2:Bool)(z TI TO i1 i2 l1 l2:Addr)(k:Nat)(h:Heap):Prop:=∃old fl a b,IsZ h z TI TO old fl/\zut old/\IsPair h TI (.ref i1) (.ref i2)/\IsPair h TO a b/\zIt b1 h i1 l1 k/\zIt b2 h i2 l2 k
theorem ZSt.keep{b1 b2:Bool}{z TI TO i1 i2 l1 l2:Addr}{k:Nat}{h h':Heap}(st:ZSt b1 b2 z TI TO i1 i2 l1 l2 k h)(kp:∀b ∈ [z,TI,TO,i1,i2],∀o,h.get? b=some o->h'.get? b=some o):ZSt b1 b2 z TI TO i1 i2 l1 l2 k h':=by
 obtain⟨old,fl,a,b,hz,ho,hI,hO,h1,h2⟩:=st;exact⟨old,fl,a,b,kp _ (by simp) _ hz,ho,kp _ (by simp) _ hI,kp _ (by simp) _ hO,h1.at λo e=>kp i1 (by simp) o e,h2.at λo e=>kp i2 (by simp) o e⟩
section
variable {prog:Program}{w:World}{A:Around}{E:Value->Shared->Prop}{s:Shared}
end
section
variable {prog:Program}{w:World}{A:Around}{E:Value->Shared->Prop}{s:Shared}
end
section
variable {X:Cx}{a b:Expr}{p pos p2 pos2:Pos}{elts:List Expr}{tpos:Pos}
end
section
variable {X:Cx}
variable {o e:Expr}{to te:DTE}{apos cpos:Pos}
end
section
variable {X:Cx}{e:Expr}{tf:DTF}{pos:Pos}
end
section
variable (P:Program)(w:World)
end
section
variable {P:Program}{w:World}{H H':Hp}{h h':Heap}{a:Addr}{o:HO}
end
section
variable {P:Program}{w:World}{H:Hp}{h h':Heap}{x e:Addr}{o':HO}
end
section
variable {fs fs' ex ex':List Addr}{H H1 H2:Hp}{h h1 h2 h':Heap}{a x e:Addr}{o:HO}
end
section
variable {X:Cx}{pins:List (Addr×Obj)}{σ:List (Option V)}{H H':Hp}{s:Shared}{h':Heap}
end
section
variable {X:Cx}
variable {a b:Expr}{ta tb:TE}{pos:Pos}
variable {tA tB':TT}{rest:List Expr}
end
section
variable {X:Cx}{pins:List (Addr×Obj)}{σ:St}{H:Hp}{s:Shared}{a:Addr}{xs ys:List V}
end
section
variable {X:Cx}{pins:List (Addr×Obj)}{σ:St}{H:Hp}{s:Shared}{E:Value->Shared->Prop}
end
section
variable {X:Cx}{st:Stmt}{rest:List Stmt}{t u:TS}{e:Expr}{te:TE}{pos:Pos}
end
section
variable {X:Cx}{pos:Pos}
end
section
variable {X:Cx}{pos:Pos}
end
section
variable {X:Cx}{tg:Expr}
end
section
variable {X:Cx}{a b c:Expr}{ta tb tc:TE}{pos:Pos}
end
section
variable {X:Cx}{a b c:Expr}{ta tb tc:TE}{pos:Pos}
end
section
variable {prog:Program}{w:World}{A:Around}{E:Value->Shared->Prop}{s:Shared}{K:PySem.W.Frag}{x dx C f:Addr}{mA:Str->Option Value}{name:Str}{v:Value}
end
section
variable {P:Program}{w:World}{H H':Hp}{h h':Heap}{a C dx:Addr}{fs fs':List (Str×V)}
end
section
variable {X:Cx}{pins:List (Addr×Obj)}{σ:St}{H:Hp}{s:Shared}{a C dx:Addr}{fs:List (Str×V)}{f:Str}{v:V}{A:Around}{E:Value->Shared->Prop}
end
section
variable {X:Cx}{o e value:Expr}{f:Str}{pos pos' tpos:Pos}{ta tv:TE}
end
section
variable {X:Cx}{pins:List (Addr×Obj)}{σ:St}{H:Hp}{s:Shared}{A:Around}{E:Value->Shared->Prop}{Q:Value->Shared->Prop}{c:Value}{b:Bool}
end
section
variable {X:Cx}{e:Expr}{es:List Expr}{te:TE}{t:TA}{pos:Pos}
end
section
variable {X:Cx}{pins:List (Addr×Obj)}{σ:St}{H:Hp}{s s':Shared}
end
section
variable {X:Cx}{CX:CXT}{k:Nat}{f C:Addr}{fd:FuncData}{ps:List Str}{sp:Sp}{dvs:List V}{ds:List Value}{E:XK}{x m:Str}{p pos apos:Pos}{e o:Expr}{es:List Expr}{ta:TE}{t:TA}
end
section
variable {X:Cx}{CX:CXT}{k:Nat}{f C:Addr}{fd:FuncData}{ps ks:List Str}{sp:Sp}{E:XK}{x m:Str}{p pos apos kpos:Pos}{e o:Expr}{es:List Expr}{kws:List Keyword}{te ta:TE}{t tk:TA}{nm:Option Str}
variable {g:List Value->List Value->List Value}{gV:List V->List V->List V}
end
section
variable {X:Cx}{x:Str}{p pos:Pos}{e:Expr}{es:List Expr}{t:TA}{id T:String}{r:List V->Hp->VK->Prop}
end
section
variable {κ:Type}[DecidableEq κ]
def ve(kvs:List (κ×V))(k:κ):Option V:=(kvs.find? λkv=>decide (kv.1=k)).map (·.2)
def wt(kvs:List (κ×V))(k:κ)(v:V):List (κ×V) :=
 if (kvs.any λkv=>decide (kv.1=k))=true then kvs.map (λkv=>if kv.1=k then (kv.1,v) else kv) else kvs ++ [(k,v)]
def zo8(kvs:List (κ×V))(k:κ):List (κ×V):=kvs.filter λkv=>decide (kv.1≠k)
theorem jn{p:κ×V}{r:List (κ×V)}{k:κ}(e:p.1=k):ve (p::r) k=some p.2:=by simp[ve,List.find?_cons,e]
theorem jo{p:κ×V}{r:List (κ×V)}{k:κ}(e:¬ p.1=k):ve (p::r) k=ve r k:=by simp[ve,List.find?_cons,e]
theorem zey(k:κ):∀kvs:List (κ×V),(kvs.any λkv=>decide (kv.1=k))=(ve kvs k).isSome
 |[]=>rfl
 |p::r=>by
  rw[List.any_cons]
  by_cases e:p.1=k
  ·simp only[jn e,decide_eq_true e,Bool.true_or,Option.isSome_some]
  ·rw[jo e,decide_eq_false e,Bool.false_or];exact zey k r
theorem qe(kvs:List (κ×V))(k:κ)(v:V):(wt kvs k v).length<=kvs.length+1:=by
 unfold wt
 split
 ·rw[List.length_map];omega
 ·rw[List.length_append,List.length_cons,List.length_nil];omega
theorem RelO.isSome_eq{o:Option V}{u:Option Value}(r:RelO o u):o.isSome=u.isSome:=by
 cases o with
 |none=>cases u with
  |none=>rfl
  |some _=>exact(show False from r).elim
 |some _=>cases u with
  |none=>exact(show False from r).elim
  |some _=>rfl
theorem RelO.getD{o:Option V}{u:Option Value}{d:V}{d':Value}(r:RelO o u)(rd:RelV d d'):RelV (o.getD d) (u.getD d'):=by
 cases o with
 |none=>cases u with
  |none=>exact rd
  |some _=>exact(show False from r).elim
 |some _=>cases u with
  |none=>exact(show False from r).elim
  |some _=>exact r
theorem KV.val{kvs:List (κ×V)}{vs:List (κ×Value)}(r:KV kvs vs)(k:κ):RelO (ve kvs k) (valueAt vs k):=by
 unfold KV at r
 induction r with
 |nil=>exact True.intro
 |@cons p q ps qs h t ih=>
  obtain⟨h1,h2⟩:=h
  by_cases e:p.1=k
  ·have e':q.1=k:=h1.symm.trans e;have b:valueAt (q::qs) k=some q.2:=by simp[valueAt,List.find?_cons,e']
   rw[jn e,b];exact h2
  ·have e':¬ q.1=k:=λz=>e (h1.trans z);have b:valueAt (q::qs) k=valueAt qs k:=by simp[valueAt,List.find?_cons,e']
   rw[jo e,b];exact ih
theorem KV.any{kvs:List (κ×V)}{vs:List (κ×Value)}(r:KV kvs vs)(k:κ):(kvs.any λkv=>decide (kv.1=k))=vs.any λkv=>decide (kv.1=k):=by
 unfold KV at r
 induction r with
 |nil=>rfl
 |cons h t ih=>rw[List.any_cons,List.any_cons,ih,h.1]
theorem KV.repl{kvs:List (κ×V)}{vs:List (κ×Value)}(r:KV kvs vs)(k:κ){y:V}{u:Value}(ry:RelV y u):
  KV (kvs.map λkv=>if kv.1=k then (kv.1,y) else kv) (vs.map λkv=>if kv.1=k then (kv.1,u) else kv):=by
 unfold KV at r ⊢
 induction r with
 |nil=>exact .nil
 |@cons p q ps qs h t ih=>
  rw[List.map_cons,List.map_cons];refine .cons ?_ ih;obtain⟨h1,h2⟩:=h
  by_cases e:p.1=k
  ·rw[if_pos e,if_pos (h1.symm.trans e)];exact⟨h1,ry⟩
  ·rw[if_neg e,if_neg (λz=>e (h1.trans z))];exact⟨h1,h2⟩
theorem KV.put{kvs:List (κ×V)}{vs:List (κ×Value)}(r:KV kvs vs)(k:κ){y:V}{u:Value}(ry:RelV y u):KV (wt kvs k y) (stored vs k u):=by
 unfold wt stored;rw[r.any k]
 by_cases e:(vs.any λkv=>decide (kv.1=k))=true
 ·rw[if_pos e,if_pos e];exact r.repl k ry
 ·rw[if_neg e,if_neg e];exact Paired.snoc r ⟨rfl,ry⟩
theorem KV.drop{kvs:List (κ×V)}{vs:List (κ×Value)}(r:KV kvs vs)(k:κ):KV (zo8 kvs k) (without vs k):=by
 unfold KV at r ⊢;unfold zo8 without
 induction r with
 |nil=>exact .nil
 |@cons p q ps qs h t ih=>
  obtain⟨h1,h2⟩:=h;rw[List.filter_cons,List.filter_cons]
  by_cases e:p.1=k
  ·have a:¬ decide (p.1≠k)=true:=by simp[e]
   have b:¬ decide (q.1≠k)=true:=by simp[h1.symm.trans e]
   rw[if_neg a,if_neg b];exact ih
  ·have e':¬ q.1=k:=λz=>e (h1.trans z);have a:decide (p.1≠k)=true:=by simp[e]
   have b:decide (q.1≠k)=true:=by simp[e']
   rw[if_pos a,if_pos b];exact .cons ⟨h1,h2⟩ ih
theorem KV.length{kvs:List (κ×V)}{vs:List (κ×Value)}(r:KV kvs vs):kvs.length=vs.length:=Paired.length r
end
theorem zc3{P:Program}{w:World}{k:Key}{u:Value}(r:RelV (kV k) u):(ym P w).is k u=true:=by
 cases k with
 |inl i=>obtain⟨t,e⟩:=(show ∃t,u=Value.int i t from r);subst e;exact zee P w i t
 |inr x=>obtain⟨t,e⟩:=(show ∃t,u=Value.str x t from r);subst e;exact zef P w x t
theorem zaa{P:Program}{w:World}:∀{ks:List Key}{us:List Value},Vals (ks.map kV) us->ItemsAre (ym P w) ks us
 |[],_,r=>by rw[List.map_nil]at r;cases r;exact .nil
 |k::ks,_,r=>by
  rw[List.map_cons]at r
  cases r with
  |cons h t=>exact .cons (zc3 h) (zaa t)
abbrev KT(H:Hp):List (List Key×V)->List (List Key×Addr×Value)->Prop:=Paired λp q=>p.1=q.1/\H q.2.1=some (.tup (p.1.map kV))/\RelV p.2 q.2.2
theorem KT.val{H:Hp}{kvs:List (List Key×V)}{xs:List (List Key×Addr×Value)}(r:KT H kvs xs)(k:List Key):RelO (ve kvs k) ((atKey xs k).map (·.2)):=by
 induction r with
 |nil=>exact True.intro
 |@cons p q ps qs h t ih=>
  obtain⟨h1,_,h2⟩:=h
  by_cases e:p.1=k
  ·have e':q.1=k:=h1.symm.trans e;have b:atKey (q::qs) k=some q.2:=by simp[atKey,List.find?_cons,e']
   rw[jn e,b];exact h2
  ·have e':¬ q.1=k:=λz=>e (h1.trans z);have b:atKey (q::qs) k=atKey qs k:=by simp[atKey,List.find?_cons,e']
   rw[jo e,b];exact ih
theorem KT.repl{H:Hp}{kvs:List (List Key×V)}{xs:List (List Key×Addr×Value)}(r:KT H kvs xs)(k:List Key){y:V}{u:Value}(ry:RelV y u):
  KT H (kvs.map λkv=>if kv.1=k then (kv.1,y) else kv) (xs.map (putAt k u)):=by
 induction r with
 |nil=>exact .nil
 |@cons p q ps qs h t ih=>
  rw[List.map_cons,List.map_cons];refine .cons ?_ ih;obtain⟨h1,h2,h3⟩:=h;unfold putAt
  by_cases e:p.1=k
  ·rw[if_pos e,if_pos (h1.symm.trans e)];exact⟨h1,h2,ry⟩
  ·rw[if_neg e,if_neg (λz=>e (h1.trans z))];exact⟨h1,h2,h3⟩
theorem KT.put{H:Hp}{kvs:List (List Key×V)}{xs:List (List Key×Addr×Value)}(r:KT H kvs xs)(k:List Key){b:Addr}{y:V}{u:Value}(hb:H b=some (.tup (k.map kV)))(ry:RelV y u):
  KT H (wt kvs k y) (storedH xs k b u):=by
 have e:(kvs.any λkv=>decide (kv.1=k))=(atKey xs k).isSome:=by
  rw[zey,(r.val k).isSome_eq,Option.isSome_map]
 unfold wt storedH;rw[e]
 by_cases q:(atKey xs k).isSome=true
 ·rw[if_pos q,if_pos q];exact r.repl k ry
 ·rw[if_neg q,if_neg q];exact Paired.snoc r ⟨rfl,hb,ry⟩
theorem KT.keeps{H H':Hp}{kvs:List (List Key×V)}{xs:List (List Key×Addr×Value)}(r:KT H kvs xs)(ht:∀b ys,H b=some (.tup ys)->H' b=some (.tup ys)):KT H' kvs xs :=
 Paired.mapP r λ_ _ z=>⟨z.1,ht _ _ z.2.1,z.2.2⟩
section
variable {P:Program}{w:World}{H:Hp}{h:Heap}{a:Addr}
theorem zo9{u:HO}(ok:HOk P w H h)(e:Rd H a u):ObjOk P w H h a u:=e.ok ok
theorem zez{kvs:List (Key×V)}(ok:HOk P w H h)(e:Rd H a (.dK kvs)):kvs.length<=sizeLine/\(a == sysModules)=false/\∃vs,KV kvs vs/\h.DictOf (ym P w) a vs :=
 show ObjOk P w H h a (.dK kvs) from zo9 ok e
theorem zpa{kvs:List (Key×V)}(ok:HOk P w H h)(e:H a=some (.dK kvs)):kvs.length<=sizeLine/\(a == sysModules)=false/\∃vs,KV kvs vs/\h.DictOf (ym P w) a vs:=zez ok (.inl e)
theorem zab{ks:List Key}(ok:HOk P w H h)(e:H a=some (.tup (ks.map kV))):(tupleKind (ym P w)).is h ks a:=by
 obtain⟨_,its,r,o,h1,h2,⟨n,h3⟩,_⟩:=(show ObjOk P w H h a (.tup (ks.map kV)) from ok a _ e)
 exact⟨o,its.toArray,n,h1,h2,h3,by simpa using zaa r⟩
theorem ze0{kvs:List (List Key×V)}(ok:HOk P w H h)(e:Rd H a (.dT kvs)):kvs.length<=sizeLine/\(a == sysModules)=false /\
  ∃xs,KT H kvs xs/\h.DictOfH (tupleKind (ym P w)) a xs:=by
 obtain⟨z,y,xs,r,o,es,ep,h1,h2,h3,h4,h5⟩:=(show ObjOk P w H h a (.dT kvs) from zo9 ok e)
 refine⟨z,y,xs,r,o,es,ep,h1,h2,h3,h4,λx hx=>?_,h5⟩;have all:∀{l:List (List Key×V)}{m:List (List Key×Addr×Value)},KT H l m->∀x∈m,(tupleKind (ym P w)).is h x.1 x.2.1:=by
  intro l m q
  induction q with
  |nil=>intro x hx;exact nomatch hx
  |@cons p q ps qs hq t ih=>
   intro x hx;rcases List.mem_cons.mp hx with e|hx
   ·subst e;exact zab ok (by rw[<-hq.1];exact hq.2.1)
   ·exact ih x hx
 exact all r x hx
theorem zk5{kvs:List (List Key×V)}(ok:HOk P w H h)(e:H a=some (.dT kvs)):kvs.length<=sizeLine/\(a == sysModules)=false /\
  ∃xs,KT H kvs xs/\h.DictOfH (tupleKind (ym P w)) a xs:=ze0 ok (.inl e)
end
def DGet(H:Hp)(a:Addr)(y:V)(r:Option V):Prop :=
 (∃kvs k,Rd H a (.dK kvs)/\y=kV k/\r=ve kvs k)\/∃kvs k b,Rd H a (.dT kvs)/\y=.ref b/\H b=some (.tup (k.map kV))/\r=ve kvs k
def DPut(H:Hp)(a:Addr)(y v:V)(H':Hp):Prop :=
 (∃kvs k,H a=some (.dK kvs)/\y=kV k/\kvs.length<sizeLine/\H'=upd H a (.dK (wt kvs k v))) \/
 ∃kvs k b,H a=some (.dT kvs)/\y=.ref b/\H b=some (.tup (k.map kV))/\kvs.length<sizeLine/\H'=upd H a (.dT (wt kvs k v))
theorem DGet.k{H:Hp}{a:Addr}{kvs:List (Key×V)}{k:Key}(e:H a=some (.dK kvs)):DGet H a (kV k) (ve kvs k):=.inl ⟨kvs,k,.inl e,rfl,rfl⟩
theorem DGet.t{H:Hp}{a b:Addr}{kvs:List (List Key×V)}{k:List Key}(e:H a=some (.dT kvs))(eb:H b=some (.tup (k.map kV))):DGet H a (.ref b) (ve kvs k):=.inr ⟨kvs,k,b,.inl e,rfl,eb,rfl⟩
theorem DPut.k{H:Hp}{a:Addr}{kvs:List (Key×V)}{k:Key}{v:V}(e:H a=some (.dK kvs))(hl:kvs.length<sizeLine):DPut H a (kV k) v (upd H a (.dK (wt kvs k v))):=.inl ⟨kvs,k,e,rfl,hl,rfl⟩
theorem DPut.t{H:Hp}{a b:Addr}{kvs:List (List Key×V)}{k:List Key}{v:V}(e:H a=some (.dT kvs))(eb:H b=some (.tup (k.map kV)))(hl:kvs.length<sizeLine):
  DPut H a (.ref b) v (upd H a (.dT (wt kvs k v))):=.inr ⟨kvs,k,b,e,rfl,eb,hl,rfl⟩
section
variable {X:Cx}{pins:List (Addr×Obj)}{σ:St}{H:Hp}{s:Shared}{a:Addr}{y v:V}{u r:Value}{o:Option V}{A:Around}{E:Value->Shared->Prop}
theorem Inv.big(I:Inv X pins σ H s):sysModules<s.heap.objs.size:=by
 have h:mainGlobals<s.heap.objs.size:=(I.mod.glob.keeps I.bk).lt;exact Nat.lt_trans (by decide) h
theorem zi1{Q:Value->Shared->Prop}(hu:A.units+1<cLine)(I:Inv X pins σ H s)(g:DGet H a y (some v))(ry:RelV y u)(h:∀w' s',Inv X pins σ H s'->RelV v w'->Q w' s'):
  wpAny (model X.prog X.w) A (getItem (.ref a) u) Q E s:=by
 rcases g with⟨kvs,k,e,ey,l⟩ |⟨kvs,k,b,e,ey,eb,l⟩
 ·subst ey;obtain⟨z,hd,vs,rel,dd⟩:=zez I.hok e;obtain⟨w',hw,rw'⟩:=RelO.some_of (v:=v) (o:=valueAt vs k) (by rw[l];exact rel.val k);exact wpAny_getItem_of (zc3 ry) dd.mapOf hw (h w' _ (I.tok _) rw')
 ·subst ey
  cases (show u=Value.ref b from ry);obtain⟨z,hd,xs,rel,dd⟩:=ze0 I.hok e;obtain⟨w',hw,rw'⟩:=RelO.some_of (v:=v) (o:=(atKey xs k).map (·.2)) (by rw[l];exact rel.val k);obtain⟨p,hp,hp2⟩:=Option.map_eq_some_iff.mp hw;refine wpAny_getItem_heap (tupleKind_room_in1 hu) (zab I.hok eb) dd hp ?_;rw[hp2];exact h w' _ (I.tok _) rw'
theorem zuu{Q:Value->Shared->Prop}(hu:A.units+1<cLine)(I:Inv X pins σ H s)(g:DGet H a y o)(ry:RelV y u)(h:∀s',Inv X pins σ H s'->Q (.bool o.isSome) s'):
  wpAny (model X.prog X.w) A (compareOp .In u (.ref a)) Q E s:=by
 rcases g with⟨kvs,k,e,ey,l⟩ |⟨kvs,k,b,e,ey,eb,l⟩
 ·subst ey;obtain⟨z,hd,vs,rel,dd⟩:=zez I.hok e;refine wpAny_in_of (zc3 ry) hd dd.mapOf ?_;rw[<-(rel.val k).isSome_eq,<-l];exact h _ (I.tok _)
 ·subst ey
  cases (show u=Value.ref b from ry);obtain⟨z,hd,xs,rel,dd⟩:=ze0 I.hok e;refine wpAny_in_heap (tupleKind_room_in1 hu) (zab I.hok eb) hd dd ?_;have q:=(rel.val k).isSome_eq;rw[Option.isSome_map]at q;rw[<-q,<-l];exact h _ (I.tok _)
theorem zns{Q:Value->Shared->Prop}(hu:A.units+1<cLine)(I:Inv X pins σ H s)(g:DGet H a y o)(ry:RelV y u)(h:∀s',Inv X pins σ H s'->Q (.bool (!o.isSome)) s'):
  wpAny (model X.prog X.w) A (compareOp .NotIn u (.ref a)) Q E s:=by
 rcases g with⟨kvs,k,e,ey,l⟩ |⟨kvs,k,b,e,ey,eb,l⟩
 ·subst ey;obtain⟨z,hd,vs,rel,dd⟩:=zez I.hok e;refine wpAny_notIn_of (zc3 ry) hd dd.mapOf ?_;rw[<-(rel.val k).isSome_eq,<-l];exact h _ (I.tok _)
 ·subst ey
  cases (show u=Value.ref b from ry);obtain⟨z,hd,xs,rel,dd⟩:=ze0 I.hok e;refine wpAny_notIn_heap (tupleKind_room_in1 hu) (zab I.hok eb) hd dd ?_;have q:=(rel.val k).isSome_eq;rw[Option.isSome_map]at q;rw[<-q,<-l];exact h _ (I.tok _)
theorem za3{h':Heap}{t':Nat}{ob:HO}(I:Inv X pins σ H s)(mu:Mut (H a))(hs:Heap.SameBut a s.heap h')(he:∃q,h'.get? a=some q)(new:ObjOk X.prog X.w (upd H a ob) h' a ob):
  Inv X pins σ (upd H a ob) { s with heap:=h',toks:=t' } :=
 I.write (x:=a) (e:=a) mu (.inl rfl) (λb q hb z=>(hs.2 b hb).trans z) he new
theorem zk6{P:Program}{w:World}{H':Hp}{h':Heap}{kvs:List (Key×V)}{vs:List (Key×Value)}(z:kvs.length<=sizeLine)(hd:(a == sysModules)=false)(rel:KV kvs vs)(dd:h'.DictOf (ym P w) a vs):
  ObjOk P w H' h' a (.dK kvs):=⟨z,hd,vs,rel,dd⟩
theorem zi2{H':Hp}{Q:Unit->Shared->Prop}(hu:A.units+1<cLine)(I:Inv X pins σ H s)(g:DPut H a y v H')(ry:RelV y u)(rv:RelV v r)(h:∀s',Inv X pins σ H' s'->Q () s'):
  wpAny (model X.prog X.w) A (setItem (.ref a) u r) Q E s:=by
 rcases g with⟨kvs,k,e,ey,l,eH⟩ |⟨kvs,k,b,e,ey,eb,l,eH⟩
 ·subst ey eH;obtain⟨z,hd,vs,rel,dd⟩:=zpa I.hok e;have hz:vs.length<=sizeLine:=by rw[<-rel.length];exact z
  have hl:(wt kvs k v).length<=sizeLine:=by have:=qe kvs k v;omega
  refine wpAny_setItem_pairs (hsz:=hz) (zc3 ry) dd λh' dd' hs=>h _ ?_;have he:∃q,h'.get? a=some q:=let ⟨q,_,_,hq,_⟩:=dd';⟨q,hq⟩;exact za3 I (by rw[e];exact True.intro) hs he (zk6 hl hd (rel.put k rv) dd')
 ·subst ey eH
  cases (show u=Value.ref b from ry);obtain⟨z,hd,xs,rel,dd⟩:=zk5 I.hok e;have hz:xs.length<=sizeLine:=by rw[<-Paired.length rel];exact z
  have hl:(wt kvs k v).length<=sizeLine:=by have:=qe kvs k v;omega
  refine wpAny_setItem_heap (hsz:=hz) (tupleKind_room_in1 hu) (zab I.hok eb) dd λh' dd' hs=>h _ ?_;obtain⟨q,es,ep,hq,h2,h3,h4,_,h5⟩:=dd';refine za3 I (by rw[e];exact True.intro) hs ⟨q,hq⟩ ⟨hl,hd,_,(rel.put k eb rv).keeps λc ys ec=>?_,q,es,ep,hq,h2,h3,h4,h5⟩;rw[zj (zos ec e (λz=>nomatch z))];exact ec
end
section
variable {X:Cx}{pins:List (Addr×Obj)}{σ:St}{H:Hp}{s:Shared}{a:Addr}{kvs:List (Key×V)}{k:Key}{u:Value}{A:Around}{E:Value->Shared->Prop}
end
def zk7(i:Expr):Prop:=∀ov iv,subscripted i false ov iv=operate [ov,iv] (getItem ov iv)
theorem zhp{prog:Program}{w:World}{A:Around}{E:Value->Shared->Prop}{s:Shared}{env:Env}{value slice:Expr}{pos:Pos}{T id:String}{Q:Value->Shared->Prop}
  (hl:typeLookup (.type T) "__getitem__" = pure (some (.builtin id))) (hs:zk7 slice)
  (h:wpAny (model prog w) A (eval value env) (λo s₁=>wpAny (model prog w) A (eval slice env) (λi s₂=>s₂.TypeIs o T/\wpAny (model prog w) A (getItem o i) Q E s₂) E s₁) E s) :
  wpAny (model prog w) A (eval (.Subscript value slice pos) env) Q E s:=by
 refine Subscript_ (wpAny_mono h (λo s₁ h₁=>wpAny_mono h₁ (λi s₂ h₂=>?_) λ_ _ x=>x) λ_ _ x=>x);obtain⟨hT,h₂⟩:=h₂;unfold subscriptTail;refine wpAny_bind ?_;rw[getitemInPython_of_ne hT.not_modules];refine wpAny_bind (wpAny_specialOf hT hl ?_);have fin:wpAny (model prog w) A (subscripted slice false o i) (λr s₃=>wpAny (model prog w) A (letTemporaryGo value o r >>= λ_=>pure r) Q E s₃) E s₂:=by
  rw[hs o i];exact wpAny_operating (wpAny_mono h₂ (λr s₃ h₃=>wpAny_bind (wpAny_letTemporaryGo (wpAny_pure h₃))) λ_ _ x=>x)
 first
  |exact wpAny_pure (wpAny_bind fin)
  |exact wpAny_bind (wpAny_pure (wpAny_bind fin))
  |exact wpAny_bind fin
theorem ze1{X:Cx}{pins:List (Addr×Obj)}{σ:St}{H:Hp}{s:Shared}{a:Addr}{y:V}{o:Option V}(I:Inv X pins σ H s)(g:DGet H a y o):s.TypeIs (.ref a) "dict" := by
 rcases g with⟨kvs,k,e,_,_⟩ |⟨kvs,k,b,e,_,_,_⟩
 ·obtain⟨_,_,vs,_,dd⟩:=zez I.hok e;exact dd.typeIs
 ·obtain⟨_,_,xs,_,dd⟩:=ze0 I.hok e;exact dd.typeIs
def ztu(td ty:TE):TE:=λσ H Q=>td σ H λx H1=>ty σ H1 λy H2=>∃a v,x=.ref a/\DGet H2 a y (some v)/\Q v H2
def zuv(ty td:TE):TE:=λσ H Q=>ty σ H λy H1=>td σ H1 λx H2=>∃a o,x=.ref a/\DGet H2 a y o/\Q (.bl o.isSome) H2
def znt(ty td:TE):TE:=λσ H Q=>ty σ H λy H1=>td σ H1 λx H2=>∃a o,x=.ref a/\DGet H2 a y o/\Q (.bl (!o.isSome)) H2
def ztv(td ty tv:TE):TS:=λD σ H=>tv σ H λv H1=>td σ H1 λx H2=>ty σ H2 λy H3=>∃a H4,x=.ref a/\DPut H3 a y v H4/\D.nx σ H4
section
variable {X:Cx}{o i e value:Expr}{pos pos' tpos:Pos}{td ty tv:TE}
theorem znu(hu:X.A.units+1<cLine)(ho:PE X o td)(hi:PE X i ty)(hs:zk7 i):PE X (.Subscript o i pos) (ztu td ty):=by
 intro pins s σ H Q I h;refine zhp PySem.F.slot_dict_getitem.lookup hs (thn (ho pins s σ H _ I h) λu s1 ⟨x,H1,I1,rx,q1⟩=>thn (hi pins s1 σ H1 _ I1 q1) λiv s2 ⟨y,H2,I2,ry,a,v,ex,g,q2⟩=>?_);subst ex;obtain rfl:u=Value.ref a:=rx;exact⟨ze1 I2 g,zi1 hu I2 g ry λw' s3 I3 rw'=>⟨v,H2,I3,rw',q2⟩⟩
theorem zrg(hu:X.A.units+1<cLine)(hi:PE X i ty)(ho:PE X o td):PC X .In i o (zuv ty td):=by
 intro pins s σ H Q I h;refine thn (hi pins s σ H _ I h) λiv s1 ⟨y,H1,I1,ry,q1⟩=>thn (ho pins s1 σ H1 _ I1 q1) λu s2 ⟨x,H2,I2,rx,a,ov,ex,g,q2⟩=>?_;subst ex;obtain rfl:u=Value.ref a:=rx;exact zuu hu I2 g ry λs3 I3=>⟨.bl ov.isSome,H2,I3,rfl,q2⟩
theorem zi3(hu:X.A.units+1<cLine)(hi:PE X i ty)(ho:PE X o td):PC X .NotIn i o (znt ty td):=by
 intro pins s σ H Q I h;refine thn (hi pins s σ H _ I h) λiv s1 ⟨y,H1,I1,ry,q1⟩=>thn (ho pins s1 σ H1 _ I1 q1) λu s2 ⟨x,H2,I2,rx,a,ov,ex,g,q2⟩=>?_;subst ex;obtain rfl:u=Value.ref a:=rx;exact zns hu I2 g ry λs3 I3=>⟨.bl (!ov.isSome),H2,I3,rfl,q2⟩
theorem zhq(hu:X.A.units+1<cLine)(ho:PE X o td)(hi:PE X i ty)(hv:PE X value tv)(hs:swapsWith value (some (.Subscript o i pos')) pos.line X.env=pure false):
  PS X (.Assign [.Subscript o i pos'] value pos) (ztv td ty tv):=by
 intro pins s σ H D I h;refine wpAny_Assign_Subscript (thn (hv pins s σ H _ I h) λr s1 ⟨v,H1,I1,rv,q1⟩=>thn (ho pins s1 σ H1 _ I1 q1) λu s2 ⟨x,H2,I2,rx,q2⟩=>thn (hi pins s2 σ H2 _ I2 q2) λiv s3 ⟨y,H3,I3,ry,a,H4,ex,g,q3⟩=>?_) hs;subst ex;obtain rfl:u=Value.ref a:=rx;exact zi2 hu I3 g ry rv λs4 I4=>⟨σ,H4,I4,q3⟩
end
theorem zk8{P:Program}{w:World}{H:Hp}(h:Heap)(hb:sysModules<h.objs.size):ObjOk P w H (h.push { cls:=.type "dict",data:=.dict #[] }) h.objs.size (.dK []) :=
 ⟨Nat.zero_le _,beq_eq_false_iff_ne.mpr (Ne.symm (Nat.ne_of_lt hb)),[],.nil,Heap.DictOf.new h⟩
theorem zk9{P:Program}{w:World}{H:Hp}(h:Heap)(hb:sysModules<h.objs.size):ObjOk P w H (h.push { cls:=.type "dict",data:=.dict #[] }) h.objs.size (.dT []) :=
 ⟨Nat.zero_le _,beq_eq_false_iff_ne.mpr (Ne.symm (Nat.ne_of_lt hb)),[],.nil,_,#[],0,Heap.get?_push_size _ rfl,⟨rfl,rfl,rfl⟩,rfl,rfl,List.nodup_nil⟩
section
variable {X:Cx}{pos:Pos}
end
def zds:List (TE×TE)->St->Hp->(List (V×V)->Hp->Prop)->Prop
 |[],_,H,Q=>Q [] H
 |(tk,tv)::r,σ,H,Q=>tk σ H λx H1=>tv σ H1 λy H2=>zds r σ H2 λps H3=>Q ((x,y)::ps) H3
abbrev VV:List (V×V)->List (Value×Value)->Prop:=Paired λp q=>RelV p.1 q.1/\RelV p.2 q.2
def PPs(X:Cx)(pos:Pos)(keys:List (Option Expr))(values:List Expr)(trs:List (TE×TE)):Prop :=
 ∀(pins:List (Addr×Obj)) (s:Shared) (σ:St) (H:Hp) (Q:List (V×V)->Hp->Prop),Inv X pins σ H s->zds trs σ H Q ->
  wpAny (model X.prog X.w) X.A (evalPairs (pairTrees keys values X.env pos)) (λvs s'=>∃ps H',Inv X pins σ H' s'/\VV ps vs/\Q ps H') X.xe s
theorem zhr{X:Cx}{pos:Pos}:PPs X pos [] [] []:=λpins s σ H Q I h=>pairTrees_nil_walk ⟨[],H,I,.nil,h⟩
theorem ze2{X:Cx}{pos:Pos}{k v:Expr}{ks:List (Option Expr)}{vs:List Expr}{tk tv:TE}{trs:List (TE×TE)}(hk:PE X k tk)(hv:PE X v tv)(hr:PPs X pos ks vs trs):
  PPs X pos (some k::ks) (v::vs) ((tk,tv)::trs):=λpins s σ H Q I h=>
 pairTrees_cons_walk (thn (hk pins s σ H _ I h) λu s1 ⟨x,H1,I1,rx,q1⟩=>thn (hv pins s1 σ H1 _ I1 q1) λw2 s2 ⟨y,H2,I2,ry,q2⟩=>
  thn (hr pins s2 σ H2 _ I2 q2) λws s3 ⟨ps,H3,I3,rel,q3⟩=>⟨(x,y)::ps,H3,I3,.cons ⟨rx,ry⟩ rel,q3⟩)
def ku(kvs more:List (Key×V)):List (Key×V):=more.foldl (λacc kv=>wt acc kv.1 kv.2) kvs
theorem KV.merge:∀{more:List (Key×V)}{rs:List (Key×Value)}{kvs:List (Key×V)}{vs:List (Key×Value)},KV more rs->KV kvs vs->KV (ku kvs more) (merged vs rs):=by
 intro more rs kvs vs r;unfold KV at r
 induction r generalizing kvs vs with
 |nil=>intro q;exact q
 |@cons p q ps qs h t ih=>
  intro r0;have e:KV (wt kvs p.1 p.2) (stored vs q.1 q.2):=by
   have:=r0.put p.1 h.2;rw[<-h.1];exact this
  exact ih e
theorem kb:∀(more kvs:List (Key×V)),(ku kvs more).length<=kvs.length+more.length
 |[],kvs=>by show kvs.length<=kvs.length+0;omega
 |p::r,kvs=>by
  have h1:=kb r (wt kvs p.1 p.2);have h2:=qe kvs p.1 p.2;show(ku (wt kvs p.1 p.2) r).length<=_;rw[List.length_cons];omega
theorem zbq{P:Program}{w:World}:∀{kvs:List (Key×V)}{ws:List (Value×Value)},VV (kvs.map λkv=>(kV kv.1,kv.2)) ws->∃rs,Carries (ym P w) ws rs/\KV kvs rs
 |[],_,r=>by rw[List.map_nil]at r;cases r;exact⟨[],True.intro,.nil⟩
 |p::kvs,_,r=>by
  rw[List.map_cons]at r
  cases r with
  |@cons a b as bs h t=>
   obtain⟨rs,c,q⟩:=zbq (P:=P) (w:=w) t;obtain⟨b1,b2⟩:=b;exact⟨(p.1,b2)::rs,⟨zc3 h.1,rfl,c⟩,.cons ⟨rfl,h.2⟩ q⟩
def ztw(trs:List (TE×TE)):TE:=λσ H Q=>∀p,H p=none->zds trs σ (upd H p (.dK [])) λps H2=>H2 p=some (.dK [])/\∃kvs:List (Key×V),ps=kvs.map (λkv=>(kV kv.1,kv.2))/\kvs.length<=15/\Q (.ref p) (upd H2 p (.dK (ku [] kvs)))
theorem znv{X:Cx}{pos:Pos}{keys:List (Option Expr)}{values:List Expr}{trs:List (TE×TE)}(h:PPs X pos keys values trs)(hall:keys.all (·.isSome)=true)(hl:keys.length=values.length)(h0:keys ≠ [])
  (h15:keys.length<=15):PE X (.Dict keys values pos) (ztw trs):=by
 intro pins s σ H Q I q;have hn:=I.hok.fresh (Nat.le_refl s.heap.objs.size);have I1:=I.laid (a:=s.heap.objs.size) (o:=.dK []) (h':=s.heap.push { cls:=.type "dict",data:=.dict #[] }) (t':=s.toks) (λ_ _ q=>Heap.get?_push_of_some _ q) (Nat.le_refl _) (zk8 s.heap I.big);refine wpAny_Dict_walk (knd:=ym X.prog X.w) hall hl h0 h15 (thn (h pins _ σ _ _ I1 (q _ hn)) λws s2 ⟨ps,H2,I2,rel,e,kvs,ep,lk,q2⟩=>?_);subst ep;obtain⟨rs,c,rk⟩:=zbq (P:=X.prog) (w:=X.w) rel;obtain⟨z,hd,vs0,r0,dd⟩:=zpa I2.hok e
 cases r0;refine⟨rs,c,dd,λh' dd' hs=>⟨.ref s.heap.objs.size,_,?_,rfl,q2⟩⟩;have hz:(ku [] kvs).length<=sizeLine:=by
  have h1:=kb kvs [];rw[List.length_nil]at h1;rw[sizeLine_eq];omega
 have he:∃q,h'.get? s.heap.objs.size=some q:=let ⟨q,_,_,hq,_⟩:=dd';⟨q,hq⟩;exact za3 I2 (by rw[e];exact True.intro) hs he (zk6 hz hd (rk.merge .nil) dd')
structure M1(X:Cx)(o:Expr)(m:Str)(apos:Pos)(e:Expr)(cpos:Pos):Prop where
 base:attributeBase o m X.env (eval o X.env)=eval o X.env
 few:((backTo cpos (starEach [e] X.env)).all (λx=>!x.1) && (backToKw cpos (keywordEach [] X.env)).all (λx=>x.1.isSome)
  && decide (([e]:List Expr).length+([]:List Keyword).length+(if ([]:List Keyword).isEmpty then 0 else 1)<30))=true
 line:(apos.endLine == cpos.line)=true
 trees:backTo cpos (starEach [e] X.env) = [(false,eval e X.env)]
structure M2(X:Cx)(o:Expr)(m:Str)(apos:Pos)(e f:Expr)(cpos:Pos):Prop where
 base:attributeBase o m X.env (eval o X.env)=eval o X.env
 few:((backTo cpos (starEach [e,f] X.env)).all (λx=>!x.1) && (backToKw cpos (keywordEach [] X.env)).all (λx=>x.1.isSome)
  && decide (([e,f]:List Expr).length+([]:List Keyword).length+(if ([]:List Keyword).isEmpty then 0 else 1)<30))=true
 line:(apos.endLine == cpos.line)=true
 trees:backTo cpos (starEach [e,f] X.env) = [(false,eval e X.env),(false,eval f X.env)]
section
variable {X:Cx}{pins:List (Addr×Obj)}{σ:St}{H:Hp}{s:Shared}{a:Addr}{y d:V}{u r:Value}{o:Option V}{A:Around}{E:Value->Shared->Prop}
end
section
variable {X:Cx}{o e f:Expr}{apos cpos:Pos}{td ty tx:TE}
end
section
variable {X:Cx}{pins:List (Addr×Obj)}{σ:St}{H:Hp}{s:Shared}{a:Addr}{kvs:List (Key×V)}{A:Around}{E:Value->Shared->Prop}
end
section
variable {X:Cx}{pins:List (Addr×Obj)}{σ:St}{H:Hp}{s:Shared}{a:Addr}{y:V}{u:Value}{A:Around}{E:Value->Shared->Prop}
end
end L2
namespace Att
open PySem PySem.W PySem.Calls PyProof.Rows
section
variable {prog:Program}{w:World}{A:Around}{E:Value->Shared->Prop}{s:Shared}{K:Frag}
end
end Att
namespace L2
open PySem PySem.Spec PyProof.Rows
section
variable {P:Program}{w:World}{K:PySem.W.Frag}{mg:Str->Option Value}{base:Heap}
end
section
variable {X:Cx}
end
section
variable {κ:Type}[DecidableEq κ]
end
def xp{κ:Type}[DecidableEq κ](ks:List (κ×D))(k:κ):Option D:=(ks.find? λkv=>decide (kv.1=k)).map (·.2)
def zau{κ:Type}[DecidableEq κ](ks:List (κ×D))(k:κ)(d:D):List (κ×D):=if (ks.any λkv=>decide (kv.1=k))=true then ks.map (λkv=>if kv.1=k then (kv.1,d) else kv) else ks ++ [(k,d)]
section
variable {K:PySem.W.Frag}{H H':Hp}{κ:Type}[DecidableEq κ]
theorem RepKV.split{ks:List (κ×D)}{vs:List (κ×V)}{p:κ×D}(h:RepKV K H (p::ks) vs):∃v vs',vs=(p.1,v)::vs'/\Rep K H p.2 v/\RepKV K H ks vs':=by
 obtain⟨h1,h2⟩:=h
 cases vs with
 |nil=>cases h1
 |cons q vs=>
  obtain⟨k,v⟩:=q;rw[List.map_cons,List.map_cons,List.cons.injEq]at h1;rw[List.map_cons,List.map_cons]at h2
  cases h2 with
  |cons r t=>
   obtain⟨e,e2⟩:=h1;have e':p.1=k:=e;subst e';exact⟨v,vs,rfl,r,e2,t⟩
theorem RepKV.cons{ks:List (κ×D)}{vs:List (κ×V)}{k:κ}{d:D}{v:V}(r:Rep K H d v)(h:RepKV K H ks vs):RepKV K H ((k,d)::ks) ((k,v)::vs):=⟨by simp[h.1],.cons r h.2⟩
theorem RepKV.nil':RepKV (κ:=κ) K H [] []:=⟨rfl,.nil⟩
theorem RepKV.same{ks:List (κ×D)}{vs:List (κ×V)}(h:RepKV K H ks vs)(s:Same H H'):RepKV K H' ks vs:=⟨h.1,h.2.same s⟩
theorem RepKV.len{ks:List (κ×D)}{vs:List (κ×V)}(h:RepKV K H ks vs):ks.length=vs.length:=by
 have:=congrArg List.length h.1;simpa using this
theorem RepKV.get:∀{ks:List (κ×D)}{vs:List (κ×V)}{k:κ}{d:D},RepKV K H ks vs->xp ks k=some d->∃v,ve vs k=some v/\Rep K H d v
 |[],_,_,_,_,e=>by cases e
 |p::ks,vs,k,d,h,e=>by
  obtain⟨v,vs',rfl,r,t⟩:=h.split
  by_cases c:p.1=k
  ·rw[jn (p:=(p.1,v)) c];have:xp (p::ks) k=some p.2:=by simp[xp,List.find?_cons,c]
   rw[this]at e
   cases e;exact⟨v,rfl,r⟩
  ·rw[jo (p:=(p.1,v)) c];have:xp (p::ks) k=xp ks k:=by simp[xp,List.find?_cons,c]
   rw[this]at e;exact RepKV.get t e
theorem RepKV.any:∀{ks:List (κ×D)}{vs:List (κ×V)} (k:κ),RepKV K H ks vs->(ks.any λkv=>decide (kv.1=k))=vs.any λkv=>decide (kv.1=k)
 |[],vs,k,h=>by
  cases vs with
  |nil=>rfl
  |cons q vs=>cases h.1
 |p::ks,vs,k,h=>by
  obtain⟨v,vs',rfl,r,t⟩:=h.split;rw[List.any_cons,List.any_cons,RepKV.any k t]
theorem RepKV.map:∀{ks:List (κ×D)}{vs:List (κ×V)}{k:κ}{d:D}{v:V},RepKV K H ks vs->Rep K H d v->RepKV K H (ks.map λkv=>if kv.1=k then (kv.1,d) else kv) (vs.map λkv=>if kv.1=k then (kv.1,v) else kv)
 |[],vs,k,d,v,h,_=>by
  cases vs with
  |nil=>exact RepKV.nil'
  |cons q vs=>cases h.1
 |p::ks,vs,k,d,v,h,rd=>by
  obtain⟨v',vs',rfl,r,t⟩:=h.split;rw[List.map_cons,List.map_cons];have ih:=RepKV.map (k:=k) t rd;obtain⟨pk,pd⟩:=p
  by_cases c:pk=k
  ·simp only[c,if_true];exact RepKV.cons rd ih
  ·simp only[c,if_false];exact RepKV.cons r ih
theorem RepKV.snoc:∀{ks:List (κ×D)}{vs:List (κ×V)}{k:κ}{d:D}{v:V},RepKV K H ks vs->Rep K H d v->RepKV K H (ks ++ [(k,d)]) (vs ++ [(k,v)])
 |[],vs,k,d,v,h,rd=>by
  cases vs with
  |nil=>exact RepKV.cons rd RepKV.nil'
  |cons q vs=>cases h.1
 |p::ks,vs,k,d,v,h,rd=>by
  obtain⟨v',vs',rfl,r,t⟩:=h.split;obtain⟨pk,pd⟩:=p;exact RepKV.cons r (RepKV.snoc t rd)
theorem RepKV.put{ks:List (κ×D)}{vs:List (κ×V)}{k:κ}{d:D}{v:V}(h:RepKV K H ks vs)(rd:Rep K H d v):RepKV K H (zau ks k d) (wt vs k v):=by
 unfold zau wt;rw[h.any k]
 split
 ·exact h.map rd
 ·exact h.snoc rd
end
section
variable {K:PySem.W.Frag}{H₀ H H':Hp}{σD:DSt}{σ:St}
theorem DOk.setOD{H1:Hp}(h:DOk K H₀ H1 σD σ)(s1:Same H1 H){a:Addr}{vs:List (Key×V)}{xs:List (Key×D)}(n:H1 a=none)(e:H a=some (.dK vs))(r:RepKV K H xs vs)(i:Nat):DOk K H₀ H (σD.set i (some (.own (.dct xs)))) (σ.set i (some (.ref a))):=by
 obtain⟨s,fp,sl,nd,fr⟩:=id h;have lv:∀b∈fp,b≠a:=λb hb z=>by
  obtain⟨u,e1,_⟩:=sl.live b hb;rw[z,n]at e1;cases e1
 obtain⟨s',fp',sl',_⟩:=id (h.after s1);have sl2:Slots K H₀ H σD σ fp:=sl.keep s1.pers (λh=>h.same s1) λb _ u e=>s1 b u e
 by_cases hi:i<σD.length
 ·obtain⟨g,g',e',sb⟩:=sl2.set (f:=[a]) (w:=some (.own (.dct xs))) (v:=some (.ref a)) (λt=>.own ⟨a,vs,rfl,rfl,e,r⟩ t) i hi;refine⟨s',_,e',?_,λb hb=>?_⟩
  ·have nd2:=sb.nodup nd;rw[List.nodup_append]at nd2 ⊢;refine⟨nd2.1,?_,λx hx y hy=>?_⟩
   ·rw[List.singleton_append,List.nodup_cons];exact⟨λz=>lv a (sb.subset (List.mem_append_right _ z)) rfl,nd2.2.1⟩
   ·rcases List.mem_append.mp hy with z|z
    ·rw[List.mem_singleton.mp z];exact lv x (sb.subset (List.mem_append_left _ hx))
    ·exact nd2.2.2 x hx y z
  ·rcases List.mem_append.mp hb with z|z
   ·exact fr b (sb.subset (List.mem_append_left _ z))
   ·rcases List.mem_append.mp z with z|z
    ·rw[List.mem_singleton.mp z]
     cases q:H₀ a with
     |none=>rfl
     |some u=>rw[s a u q]at n;cases n
    ·exact fr b (sb.subset (List.mem_append_right _ z))
 ·rw[List.set_eq_of_length_le (by omega),List.set_eq_of_length_le (by rw[<-sl2.length];omega)];exact⟨s',fp,sl2,nd,fr⟩
end
section
variable {X:Cx}{e:Expr}{te tk tv:DTE}{pos:Pos}
def zhs(i:Nat)(tk:DTE):DTE:=λσ Q=>match σ[i]? with
 |some (some (.own (.dct ks)))=>tk σ λk=>match k with
  |.int n=>∃d,xp ks (Sum.inl n)=some d/\Q d
  |.str n=>∃d,xp ks (Sum.inr n)=some d/\Q d
  |_=>False
 |some (some (.vd ks))=>tk σ λk=>match k with
  |.int n=>∃d,xp ks (Sum.inl n)=some d/\Q d
  |.str n=>∃d,xp ks (Sum.inr n)=some d/\Q d
  |_=>False
 |_=>False
theorem znw(i:Nat){x:Str}{k:Expr}{p1:Pos}{m:Nat}(hr:Room m X.A)(hk:DE X k tk)(hN:X.N[i]?=some x:=by rfl)(hvis:Vis X.env.scope x:=by first|exact Or.inl rfl|exact Or.inr (Or.inl rfl)|exact Or.inr (Or.inr rfl))(hd:(x ==("__debug__" : Str))=false:=by decide)(hcd:(x ==("__classdict__" : Str))=false:=by decide)(hs:zk7 k:=by exact λ_ _=>rfl):
  DE X (.Subscript (.Name x p1) k pos) (zhs i tk) :=
 DE.of (znu (by have:=hr.un;omega) (yp (i:=i) hN hvis hd hcd) hk.pe hs) λσ H H₀ σD QD ok q=>by
  have key:∀{a:Addr}{vs:List (Key×V)}{ks:List (Key×D)},H a=some (.dK vs)->RepKV X.K H ks vs->∀(v2:V) (H2:Hp) (d2:D),Same H H2->Rep X.K H2 d2 v2->(match d2 with|.int n=>∃d,xp ks (Sum.inl n)=some d/\QD d|.str n=>∃d,xp ks (Sum.inr n)=some d/\QD d|_=>False) ->
    ∃a' v,V.ref a=.ref a'/\DGet H2 a' v2 (some v)/\∃d,Same H H2/\Rep X.K H2 d v/\QD d:=λ{a vs ks} e2 r v2 H2 d2 s2 r2 q2=>by
   cases d2 with
   |int n'=>
    cases r2;obtain⟨d,hg,q3⟩:=q2;obtain⟨v,hv,rv⟩:=(r.same s2).get hg;exact⟨a,v,rfl,hv ▸ DGet.k (k:=Sum.inl n') (s2 _ _ e2),d,s2,rv,q3⟩
   |str n'=>
    cases r2;obtain⟨d,hg,q3⟩:=q2;obtain⟨v,hv,rv⟩:=(r.same s2).get hg;exact⟨a,v,rfl,hv ▸ DGet.k (k:=Sum.inr n') (s2 _ _ e2),d,s2,rv,q3⟩
   |_=>exact q2.elim
  unfold zhs at q
  split at q
  ·next ks eo=>
   obtain⟨a,vs,e1,e2,r,n⟩:=ok.ownD eo;exact⟨.ref a,e1,H₀,σD,_,ok,q,λv2 H2 d2 s2 r2 q2=>key e2 r v2 H2 d2 s2 r2 q2⟩
  ·next ks eo=>
   obtain⟨v,e1,a,vs,rfl,e2,r⟩:=ok.vd eo;exact⟨.ref a,e1,H₀,σD,_,ok,q,λv2 H2 d2 s2 r2 q2=>key e2 r v2 H2 d2 s2 r2 q2⟩
  ·exact q.elim
end
section
variable {X:Cx}
variable {o e:Expr}{to te:DTE}{apos cpos:Pos}
end
end L2
namespace SQ
open PySem PyProof.Rows
set_option autoImplicit false
section
variable {κ:KeyKind}
variable {prog:Program}{w:World}{A:Around}{E:Value->Shared->Prop}{s:Shared}{κ:KeyKind}{kd:SortKind}{a₀:Array Keyed}
end
section
variable {prog:Program}{w:World}{A:Around}{E:Value->Shared->Prop}{s:Shared}
end
end SQ
namespace L2
open PySem PySem.Spec PyProof.Rows SQ
section
variable {X:Cx}
end
end L2
namespace L2
open PySem PySem.Spec PyProof.Rows
end L2
namespace L2
open PySem PySem.Spec PyProof.Rows PySem.Builtin PySem.Builtin.Str
def tx(x:Str):List Nat:=x.cps.toList
def Dl(r:List Nat):Prop:=∀c t,r=c::t->c=44\/c=41\/c=93
theorem Dl.c{c:Nat}{r:List Nat}(h:c=44\/c=41\/c=93):Dl (c::r):=λa t e=>by
 rw[<-(List.cons.inj e).1];exact h
section
variable {xs ys:List D}{r r':List Nat}
end
end L2
namespace L2
open PySem PySem.Spec PyProof.Rows
section
variable {X:Cx}{e:Expr}{p pos:Pos}
end
section
variable {K:PySem.W.Frag}{H₀ H H':Hp}{σD:DSt}{σ:St}
theorem Nst.upd{b:Addr}{vs:List V}{ys:List D}(p:Pers H (upd H b (.lst vs)))(r:Reps K H ys vs):∀{xss:List (List D)}{as:List Addr}{k:Nat},as.Nodup->Nst K H xss as->as[k]?=some b->Nst K (upd H b (.lst vs)) (xss.set k ys) as
 |[],[],k,_,_,e=>by simp at e
 |xs::xss,c::as,0,nd,h,e=>by
  simp at e;subst e;rw[List.nodup_cons]at nd;exact⟨⟨vs,zl,r.mono p⟩,h.2.keep p λa ha u hu=>by rw[zj (λz=>nd.1 (by rw[<-z];exact ha))];exact hu⟩
 |xs::xss,c::as,k+1,nd,h,e=>by
  rw[List.nodup_cons]at nd;have e':as[k]?=some b:=by simpa using e
  obtain⟨⟨ws,e1,r1⟩,t⟩:=h;exact⟨⟨ws,by rw[zj (λz=>nd.1 (by rw[z];exact List.mem_of_getElem? e'))];exact e1,r1.mono p⟩,Nst.upd p r nd.2 t e'⟩
theorem DOk.setF{H1:Hp}(h:DOk K H₀ H1 σD σ)(s1:Same H1 H){o:O}{v:V}{f:List Addr}(n:∀a∈f,H1 a=none)(nf:f.Nodup)(r:RepO K H o v f)(i:Nat):DOk K H₀ H (σD.set i (some (.own o))) (σ.set i (some v)):=by
 obtain⟨s,fp,sl,nd,fr⟩:=id h;have lv:∀b∈fp,∀a∈f,b≠a:=λb hb a ha z=>by
  obtain⟨u,e1,_⟩:=sl.live b hb;rw[z,n a ha]at e1;cases e1
 obtain⟨s',fp',sl',_⟩:=id (h.after s1);have sl2:Slots K H₀ H σD σ fp:=sl.keep s1.pers (λh=>h.same s1) λb _ u e=>s1 b u e
 by_cases hi:i<σD.length
 ·obtain⟨g,g',e',sb⟩:=sl2.set (f:=f) (w:=some (.own o)) (v:=some v) (λt=>.own r t) i hi;refine⟨s',_,e',?_,λb hb=>?_⟩
  ·have nd2:=sb.nodup nd;rw[List.nodup_append]at nd2 ⊢;refine⟨nd2.1,?_,λx hx y hy=>?_⟩
   ·rw[List.nodup_append];exact⟨nf,nd2.2.1,λx hx y hy z=>lv y (sb.subset (List.mem_append_right _ hy)) x hx z.symm⟩
   ·rcases List.mem_append.mp hy with z|z
    ·exact lv x (sb.subset (List.mem_append_left _ hx)) y z
    ·exact nd2.2.2 x hx y z
  ·rcases List.mem_append.mp hb with z|z
   ·exact fr b (sb.subset (List.mem_append_left _ z))
   ·rcases List.mem_append.mp z with z|z
    ·cases q:H₀ b with
     |none=>rfl
     |some u=>have:=n b z;rw[s b u q]at this;cases this
    ·exact fr b (sb.subset (List.mem_append_right _ z))
 ·rw[List.set_eq_of_length_le (by omega),List.set_eq_of_length_le (by rw[<-sl2.length];omega)];exact⟨s',fp,sl2,nd,fr⟩
end
section
variable {X:Cx}{e e1 e2 e3:Expr}{pos:Pos}{te t3:DTE}{t1 t2:DTF}
theorem Nst.at:∀{K:PySem.W.Frag}{H:Hp}{xss:List (List D)}{as:List Addr}{k:Nat}{xs:List D},Nst K H xss as->xss[k]?=some xs->∃b vs,as[k]?=some b/\H b=some (.lst vs)/\Reps K H xs vs
 |_,_,_::_,b::_,0,_,h,e=>by
  simp at e;subst e;obtain⟨vs,e1,r⟩:=h.1;exact⟨b,vs,rfl,e1,r⟩
 |_,_,_::_,_::_,k+1,_,h,e=>by
  obtain⟨b,vs,h1,h2⟩:=Nst.at h.2 (k:=k) (by simpa using e);exact⟨b,vs,by simpa using h1,h2⟩
 |_,_,[],[],_,_,_,e=>by simp at e
variable {o:Expr}{to:DTE}{apos cpos:Pos}
end
structure Sl(fs:List Addr)(e:Addr)(h h':Heap):Prop where
 keep:∀b o,h.get? b=some o->b≠e->b∉fs->h'.get? b=some o
 slot:∀b o,h.get? b=some o->b≠e->∃sl,h'.get? b=some { o with slots:=sl }
section
variable {M:Model}{A:Around}{E:Value->Shared->Prop}{s:Shared}{base:Heap}{env:Env}{outer:List Env}{L e:Addr}{Q:Unit->Shared->Prop}
end
section
variable {fs fs':List Addr}{H H1:Hp}{h h1 h2:Heap}{a:Addr}{P:Program}{w:World}
theorem Un.sl(u:Un fs [] H H1 h h1)(S:Sl fs' a h1 h2)(hf:∀b o,b∈fs'->h.get? b=some o->b∈fs)(ha:h.get? a=none):Un fs [] H H1 h h2 where
 keep:=λb o e n hb hx=>S.keep b o (u.keep b o e n hb hx) (λz=>by rw[z,ha]at e;cases e) λz=>hb (hf b o z e)
 slot:=λb o e n hb hx=>by
  obtain⟨sl,e1⟩:=u.slot b o e n hb hx;obtain⟨sl',e2⟩:=S.slot b _ e1 λz=>by rw[z,ha]at e;cases e
  exact⟨sl',e2⟩
 free:=u.free
 there:=λb o e hx=>by
  obtain⟨o',e1⟩:=u.there b o e hx;obtain⟨sl,e2⟩:=S.slot b _ e1 λz=>by rw[z,ha]at e;cases e
  exact⟨_,e2⟩
 tups:=u.tups
 frzs:=u.frzs
 tbls:=u.tbls
theorem HOk.sl(hok:HOk P w H1 h1)(S:Sl fs' a h1 h2)(hf:∀b∈fs',H1 b=none)(ha:H1 a=none):HOk P w H1 h2:=λb o e=>by
 have ne:∀c u,H1 c=some u->c≠a/\c∉fs':=λc u q=>⟨λz=>(by rw[z,ha]at q;cases q),λz=>by rw[hf c z]at q;cases q⟩
 refine(hok b o e).stay (λc u hc q=>?_) (λ_ q=>q) λ_ _ q=>q;rcases hc with rfl|hc
 ·exact S.keep c u q (ne c o e).1 (ne c o e).2
 ·exact S.keep c u q (ne c _ hc).1 (ne c _ hc).2
end
theorem ObjOk.ex{P:Program}{w:World}{H:Hp}{h:Heap}{a:Addr}{o:HO}(x:ObjOk P w H h a o):∃u,h.get? a=some u:=by
 cases o with
 |lst xs=>obtain⟨_,_,_,_,e⟩:=x;exact⟨_,e⟩
 |tup xs=>obtain⟨_,_,_,o,e,_⟩:=x;exact⟨_,e⟩
 |dK kvs=>obtain⟨_,_,_,_,o,_,_,e,_⟩:=x;exact⟨_,e⟩
 |dT kvs=>obtain⟨_,_,_,_,o,_,_,e,_⟩:=x;exact⟨_,e⟩
 |set S n=>obtain⟨o,_,_,_,e,_⟩:=x;exact⟨_,e⟩
 |ins C dx fs=>obtain⟨_,_,_,e,_⟩:=x;exact⟨_,e⟩
 |own y=>exact x
 |xd fs=>obtain⟨_,⟨_,_,_,e,_⟩,_⟩:=x;exact⟨_,e⟩
 |rng lo hi=>obtain⟨_,_,_,e⟩:=x;exact⟨_,e⟩
 |frz ob u=>exact⟨_,x.1⟩
 |tbl ps=>obtain⟨_,_,_,_,e,_⟩:=x;exact⟨_,e⟩
 |met f y=>exact⟨_,x⟩
 |ext φ=>exact x.2.1
structure Room0(k:Nat)(A:Around):Prop where
 dp:A.depth+3 * k+5<recursionLimit
 un:A.units+16 * k+200<cLine
 gd:A.guards=some []
theorem Room0.mono{j k:Nat}{A:Around}(r:Room0 k A)(h:j<=k):Room0 j A:=⟨by have:=r.dp;omega,by have:=r.un;omega,r.gd⟩
section
variable {X:Cx}{pins:List (Addr×Obj)}{σ:St}{H:Hp}{s:Shared}{e:Value}
end
structure FnH(P:Program)(w:World)(K:PySem.W.Frag)(mg:Str->Option Value)(base:Heap)(k:Nat)(f:Addr)(fd:FuncData)(ps:List Str)(sp:Sp):Prop where
 len:∀vs H Q E,sp vs H Q E->vs.length=ps.length
 run:∀(A:Around) (outer:List Env) (s:Shared) (H:Hp) (args:Args) (us:List Value) (vs:List V) (Q:VK) (E:XK),Room0 k A->Env0 P w K mg base A outer s H->BindsTo s fd args (ps.zip us)->Vals vs us->sp vs H Q E ->
  codeAny (model P w) A (.call (.ref f) args) (CR CX0 outer P w H s Q E) s
section
variable {P:Program}{w:World}{K:PySem.W.Frag}{mg:Str->Option Value}{base:Heap}
end
structure DSX(X:Cx)(st:Stmt)(t:DTS):Prop where
 run:∀(pins:List (Addr×Obj)) (s:Shared) (σ:St) (H:Hp) (σD:DSt) (Dn:xu),Inv X pins σ H s->DOk X.K X.H₀ H σD σ->t Dn σD->wpAny (model X.prog X.w) X.A (exec st X.env) (DSP X pins X.H₀ H Dn) X.xe s
structure DSXs(X:Cx)(st:List Stmt)(t:DTS):Prop where
 run:∀(pins:List (Addr×Obj)) (s:Shared) (σ:St) (H:Hp) (σD:DSt) (Dn:xu),Inv X pins σ H s->DOk X.K X.H₀ H σD σ->t Dn σD->wpAny (model X.prog X.w) X.A (execs st X.env) (DSP X pins X.H₀ H Dn) X.xe s
section
variable {X:Cx}{st:Stmt}{sts rest:List Stmt}{t u:DTS}{pos:Pos}
end
section
variable {P:Program}{w:World}{K:PySem.W.Frag}{mg:Str->Option Value}{base:Heap}{N:List Str}{qual:Str}{scope:Scope}{f:Addr}{cd:Value}{A:Around}{outer:List Env}{s:Shared}{H:Hp}{E:XK}
end
section
variable {P:Program}{w:World}{K:PySem.W.Frag}{mg:Str->Option Value}{base:Heap}
end
structure zu6(K:PySem.W.Frag)(CK C:Addr):Prop where
 sub:PySem.W.kitCls K (.ref C) (.ref CK)=some true
 bas:PySem.W.subIn K (.ref CK) (.type "BaseException")=some true
section
variable {X:Cx}{pins:List (Addr×Obj)}{σ:St}{H H₀:Hp}{s s':Shared}{E:XK}{e:Value}
end
section
variable {X:Cx}
end
end L2
namespace L2
open PySem PySem.Spec PyProof.Rows PySem.W
section
variable {prog:Program}{w:World}{A:Around}{E:Value->Shared->Prop}{s:Shared}{K:Frag}{x C:Addr}{ox:Obj}{od:Option Obj}
end
structure XIs(K:Frag)(C:Addr):Prop where
 ga:findIn K (.ref C) "__getattribute__" = some (some (.builtin "BaseException.__getattribute__"))
 hk:findIn K (.ref C) "__getattr__" = some none
 bas:mroIn K C (.type "BaseException")=some true
 dct:hasDictIn K C=true
 fnd:findIn K (.ref C) "__class__" = some (some (.builtin "object.__class__"))
 spc:specialIn K (.builtin "object.__class__") "__get__" = some (some (.builtin "getset_descriptor.__get__"))
 tks:takesIn K (.builtin "object.__class__")=some true
 mro:mroIn K C (.type "object")=some true
section
variable {X:Cx}{pins:List (Addr×Obj)}{σ:St}{H:Hp}{s:Shared}
def XDc(H:Hp)(od:Option Addr):Prop:=od=none\/∃d fs,od=some d/\H d=some (.xd fs)
theorem XDc.of{K:Frag}{x:Str×List (Str×Int)}{od:Option Addr}(h:(x.2 = []/\od=none)\/∃d,od=some d/\H d=some (.xd (x.2.map λp=>(p.1,V.int p.2)))):XDc H od:=by
 rcases h with h |⟨d,e,h⟩
 ·exact .inl h.2
 ·exact .inr ⟨d,_,e,h⟩
variable {e:Expr}{pos p:Pos}
variable {o:Expr}{to te:DTE}{apos cpos:Pos}
end
end L2
namespace L2
open PySem PySem.Spec PyProof.Rows PySem.W
section
variable {K:Frag}{C D:Addr}{t:Value}{b:Bool}
theorem zrh{P:Str->Prop}:∀r∈([]:List Str),P r:=λ_ h=>nomatch h
theorem zht{P:Str->Prop}{a:Str}{l:List Str}(h:P a)(t:∀r∈l,P r):∀r∈a::l,P r:=λr hr=>by
 rcases List.mem_cons.mp hr with rfl|hr
 ·exact h
 ·exact t r hr
end
theorem qy{t R:DTS}{Dn:xu}{σ:DSt}(P:DSt->Prop)(h:∀N:DSt->Prop,(∀σ',P σ'->N σ')->t { Dn with nx:=N } σ)(k:∀σ',P σ'->R Dn σ'):zni t R Dn σ:=h _ k
def zla:DOp:=λa b Q=>match a,b with
 |.bool i,.bool j=>Q (.bool (!decide (i=j)))
 |_,_=>False
section
variable {X:Cx}
theorem zgq:OpD X (compareOp .IsNot) zla:=OpD.of ziu λx y H a b Q ra rb q=>by
 cases a with
 |bool i=>
  cases b with
  |bool j=>
   have ra:=ra.rep (λxs z=>by cases z);have rb:=rb.rep (λxs z=>by cases z)
   cases ra
   cases rb;exact⟨i,j,rfl,rfl,.bool (!decide (i=j)),Same.refl _,.bl,q⟩
  |_=>exact q.elim
 |_=>exact q.elim
end
end L2
namespace L2
open PySem PySem.Spec PyProof.Rows
section
variable {X:Cx}
end
section
variable {K:PySem.W.Frag}{H₀ H:Hp}{σD:DSt}{σ:St}
theorem Slots.focus{fp:List Addr}(h:Slots K H₀ H σD σ fp){i:Nat}{o:O}(e:σD[i]?=some (some (.own o))):
  ∃v f g g',σ[i]?=some (some v)/\RepO K H o v f/\fp=g++(f++g')/\∀H' o' f',Pers H H'->(∀a,a∈g++g'->∀u,H a=some u->H' a=some u)->RepO K H' o' v f'->Slots K H₀ H' (clr (σD.set i (some (.own o')))) σ (g++(f'++g')):=by
 induction h generalizing i with
 |nil=>simp at e
 |none t ih=>
  cases i with
  |zero=>simp at e
  |succ i=>obtain⟨v,f,g,g',h1,h2,h3,h4⟩:=ih (i:=i) (by simpa using e);exact⟨v,f,g,g',by simpa using h1,h2,h3,λH' o' f' p k r=>.none (h4 H' o' f' p k r)⟩
 |val q t ih=>
  cases i with
  |zero=>simp at e
  |succ i=>obtain⟨v,f,g,g',h1,h2,h3,h4⟩:=ih (i:=i) (by simpa using e);exact⟨v,f,g,g',by simpa using h1,h2,h3,λH' o' f' p k r=>.val (q.mono p) (h4 H' o' f' p k r)⟩
 |vw q t ih=>
  cases i with
  |zero=>simp at e
  |succ i=>obtain⟨v,f,g,g',h1,h2,h3,h4⟩:=ih (i:=i) (by simpa using e);exact⟨v,f,g,g',by simpa using h1,h2,h3,λH' o' f' p k r=>.vw q (h4 H' o' f' p k r)⟩
 |vd q t ih=>
  cases i with
  |zero=>simp at e
  |succ i=>obtain⟨v,f,g,g',h1,h2,h3,h4⟩:=ih (i:=i) (by simpa using e);exact⟨v,f,g,g',by simpa using h1,h2,h3,λH' o' f' p k r=>.vd q (h4 H' o' f' p k r)⟩
 |exc q t ih=>
  cases i with
  |zero=>simp at e
  |succ i=>obtain⟨v,f,g,g',h1,h2,h3,h4⟩:=ih (i:=i) (by simpa using e);exact⟨v,f,g,g',by simpa using h1,h2,h3,λH' o' f' p k r=>.exc q (h4 H' o' f' p k r)⟩
 |scr q t ih=>
  cases i with
  |zero=>simp at e
  |succ i=>obtain⟨v,f,g,g',h1,h2,h3,h4⟩:=ih (i:=i) (by simpa using e);exact⟨v,f,g,g',by simpa using h1,h2,h3,λH' o' f' p k r=>.scr q (h4 H' o' f' p k r)⟩
 |pen q t ih=>
  cases i with
  |zero=>simp at e
  |succ i=>obtain⟨v,f,g,g',h1,h2,h3,h4⟩:=ih (i:=i) (by simpa using e);exact⟨v,f,g,g',by simpa using h1,h2,h3,λH' o' f' p k r=>.pen (p _ _ q rfl) (h4 H' o' f' p k r)⟩
 |tmp q t ih=>
  cases i with
  |zero=>simp at e
  |succ i=>obtain⟨v,f,g,g',h1,h2,h3,h4⟩:=ih (i:=i) (by simpa using e);exact⟨v,f,g,g',by simpa using h1,h2,h3,λH' o' f' p k r=>.none (h4 H' o' f' p k r)⟩
 |@own o0 v0 f0 ws wvs fp' q t ih=>
  cases i with
  |zero=>
   simp at e;subst e;refine⟨v0,f0,[],fp',rfl,q,rfl,λH' o' f' p k r=>?_⟩;rw[List.nil_append];exact .own r (t.keepC p λa ha u hu=>k a ha u hu)
  |succ i=>
   obtain⟨v,f,g,g',h1,h2,h3,h4⟩:=ih (i:=i) (by simpa using e);refine⟨v,f,f0++g,g',by simpa using h1,h2,by rw[h3,List.append_assoc],λH' o' f' p k r=>?_⟩;rw[List.append_assoc];refine .own (q.keep p λa ha u hu=>k a ?_ u hu) (h4 H' o' f' p (λa ha u hu=>k a ?_ u hu) r)
   ·exact List.mem_append_left _ (List.mem_append_left _ ha)
   ·rcases List.mem_append.mp ha with z|z
    ·exact List.mem_append_left _ (List.mem_append_right _ z)
    ·exact List.mem_append_right _ z
theorem DOk.focus(h:DOk K H₀ H σD σ){i:Nat}{o:O}(e:σD[i]?=some (some (.own o))):
  ∃v f,σ[i]?=some (some v)/\RepO K H o v f/\f.Nodup/\(∀a∈f,H₀ a=none)/\∀H' o' f',(∀a u,a∉f->H a=some u->H' a=some u)->f'.Nodup->(∀a∈f',a∈f\/H a=none)->RepO K H' o' v f' ->
   DOk K H₀ H' (clr (σD.set i (some (.own o')))) σ/\Pers H H':=by
 obtain⟨s,fp,sl,nd,fr⟩:=h;obtain⟨v,f,g,g',h1,h2,rfl,h4⟩:=sl.focus e;have nd':=nd;rw[List.nodup_append,List.nodup_append]at nd';obtain⟨ng,⟨nf,ng',dfg'⟩,dg⟩:=nd';have inf:∀a∈f,a∈g++(f++g'):=λa ha=>List.mem_append_right _ (List.mem_append_left _ ha);refine⟨v,f,h1,h2,nf,λa ha=>fr a (inf a ha),λH' o' f' k nf' hf' r=>?_⟩;have pr:Pers H H':=λa u ha hp=>k a u (λz=>by obtain⟨w,e1,e2⟩:=h2.live a z;rw[ha]at e1;cases e1;rw[e2]at hp;cases hp) ha;have off:∀a,a∈g++g'->a∉f:=λa ha z=>by
  rcases List.mem_append.mp ha with y|y
  ·exact dg a y a (List.mem_append_left _ z) rfl
  ·exact dfg' a z a y rfl
 have lv:∀a,a∈g++g'->H a≠none:=λa ha z=>by
  obtain⟨w,e1,_⟩:=sl.live a (by rcases List.mem_append.mp ha with y|y;exact List.mem_append_left _ y;exact List.mem_append_right _ (List.mem_append_right _ y));rw[z]at e1
  cases e1
 refine⟨⟨λa u ha=>k a u (λz=>by rw[fr a (inf a z)]at ha;cases ha) (s a u ha),_,h4 H' o' f' pr (λa ha u hu=>k a u (off a ha) hu) r,?_,λa ha=>?_⟩,pr⟩
 ·have nq:∀x∈g++g',∀y∈f',x≠y:=λx hx y hy z=>by
   subst z;rcases hf' x hy with q|q
   ·exact off x hx q
   ·exact lv x hx q
  rw[List.nodup_append,List.nodup_append];refine⟨ng,⟨nf',ng',λx hx y hy z=>nq y (List.mem_append_right _ hy) x hx z.symm⟩,λx hx y hy=>?_⟩;rcases List.mem_append.mp hy with q|q
  ·exact nq x (List.mem_append_left _ hx) y q
  ·exact dg x hx y (List.mem_append_right _ q)
 ·rcases List.mem_append.mp ha with q|q
  ·exact fr a (List.mem_append_left _ q)
  ·rcases List.mem_append.mp q with q|q
   ·rcases hf' a q with z|z
    ·exact fr a (inf a z)
    ·cases y:H₀ a with
     |none=>rfl
     |some u=>rw[s a u y]at z;cases z
   ·exact fr a (List.mem_append_right _ (List.mem_append_right _ q))
def O.bare:O->O
 |.anc _ o=>o.bare
 |o=>o
def O.with:O->O->O
 |.anc a o,o'=>.anc a (o.with o')
 |_,o'=>o'
theorem RepO.bare{o:O}{v:V}{f:List Addr}(h:RepO K H o v f):RepO K H o.bare v f:=by
 induction o with
 |anc a o ih=>exact ih h.2
 |_=>exact h
theorem RepO.ref{o:O}{v:V}{f:List Addr}(h:RepO K H o v f):∃a,v=.ref a:=by
 induction o with
 |anc a o ih=>exact⟨a,h.1⟩
 |lst xs=>obtain⟨a,_,e,_⟩:=h;exact⟨a,e⟩
 |dct xs=>obtain⟨a,_,e,_⟩:=h;exact⟨a,e⟩
 |nst xs ds=>obtain⟨a,_,_,e,_⟩:=h;exact⟨a,e⟩
 |ins c fs=>obtain⟨a,_,_,_,e,_⟩:=h;exact⟨a,e⟩
 |mix ms=>obtain⟨a,_,_,e,_⟩:=h;exact⟨a,e⟩
 |tk ks=>obtain⟨a,e,_⟩:=h;exact⟨a,e⟩
 |dcT ks=>obtain⟨a,_,e,_⟩:=h;exact⟨a,e⟩
theorem RepO.with{H':Hp}{o o':O}{v:V}{f f':List Addr}(h:RepO K H o v f)(h':RepO K H' o' v f'):RepO K H' (o.with o') v f':=by
 induction o with
 |anc a o ih=>exact⟨h.1,ih h.2⟩
 |_=>exact h'
end
def zlb(f:List Addr)(H:Hp):Hp:=λa=>if a∈f then none else H a
theorem zc4{f:List Addr}{H:Hp}{a:Addr}(h:a∈f):zlb f H a=none:=if_pos h
theorem za4{f:List Addr}{H:Hp}{a:Addr}(h:a∉f):zlb f H a=H a:=if_neg h
theorem zi4{f:List Addr}{H:Hp}:Same (zlb f H) H:=λa u h=>by
 by_cases z:a∈f
 ·rw[zc4 z]at h;cases h
 ·rw[za4 z]at h;exact h
theorem zi5{K:PySem.W.Frag}{o:O}{v:V}{f:List Addr}{H:Hp}(r:RepO K H o v f):Pers H (zlb f H):=λa u h p=>by
 rw[za4]
 ·exact h
 ·intro z;obtain⟨w,e1,e2⟩:=r.live a z;rw[h]at e1
  cases e1;rw[e2]at p
  cases p
def W.plain:W->Bool
 |.val _=>true
 |.pen=>true
 |_=>false
theorem RepWs.mono{K:PySem.W.Frag}{H H':Hp}(p:Pers H H'){ws:List W}{vs:List V}(h:∀w∈ws,w.plain=true)(q:RepWs K H ws vs):RepWs K H' ws vs:=by
 induction q with
 |nil=>exact .nil
 |@cons w _ _ _ r t ih=>
  refine .cons ?_ (ih λx hx=>h x (List.mem_cons_of_mem _ hx));have:=h w List.mem_cons_self
  cases w with
  |val d=>exact Rep.mono p r
  |pen=>obtain⟨a,rfl,r⟩:=r;exact⟨a,rfl,p _ _ r rfl⟩
  |_=>cases this
abbrev wu:=List W->O->List W->(D->O->Prop)->Prop
def kc(K:PySem.W.Frag)(sp:wu):Sp:=λvs H Q _=>∃vp a vq ws o wq QD H₀ f,vs=vp ++ .ref a::vq/\RepWs K H₀ ws vp/\RepWs K H₀ wq vq/\RepO K H o (.ref a) f/\f.Nodup/\(∀b∈f,H₀ b=none)/\Same H₀ H/\sp ws o wq QD /\
 ∀v H' d o' f',Same H₀ H'->Rep K H' d v->RepO K H' o' (.ref a) f'->f'.Nodup->(∀b∈f',H₀ b=none)->QD d o'->Q v H'
structure ze3 where
 nx:DSt->Prop
 rt:D->DSt->Prop
 bk:DSt->Prop:=λ_=>False
 ct:DSt->Prop:=λ_=>False
abbrev GTS:=ze3->DSt->Prop
def ze4(K:PySem.W.Frag)(H₀ H:Hp)(Gn:ze3):zfv where
 nx:=λσ' H'=>∃σD',DOk K H₀ H' σD' σ'/\Pers H H'/\Gn.nx σD'
 bk:=λσ' H'=>∃σD',DOk K H₀ H' σD' σ'/\Pers H H'/\Gn.bk σD'
 ct:=λσ' H'=>∃σD',DOk K H₀ H' σD' σ'/\Pers H H'/\Gn.ct σD'
 rt:=λv H'=>∃σ' σD' d,DOk K H₀ H' σD' σ'/\Rep K H' d v/\Gn.rt d σD'
structure DGS(X:Cx)(st:Stmt)(t:GTS):Prop where
 run:∀(pins:List (Addr×Obj)) (s:Shared) (σ:St) (H H₀:Hp) (σD:DSt) (Gn:ze3),Inv X pins σ H s->DOk X.K H₀ H σD σ->t Gn σD->wpAny (model X.prog X.w) X.A (exec st X.env) (SP X pins (ze4 X.K H₀ H Gn)) X.xe s
structure DGSs(X:Cx)(st:List Stmt)(t:GTS):Prop where
 run:∀(pins:List (Addr×Obj)) (s:Shared) (σ:St) (H H₀:Hp) (σD:DSt) (Gn:ze3),Inv X pins σ H s->DOk X.K H₀ H σD σ->t Gn σD->wpAny (model X.prog X.w) X.A (execs st X.env) (SP X pins (ze4 X.K H₀ H Gn)) X.xe s
theorem SP.backG{X:Cx}{pins:List (Addr×Obj)}{H₀ H H1:Hp}{Gn:ze3}{f:Flow}{s':Shared}(p:Pers H H1)(h:SP X pins (ze4 X.K H₀ H1 Gn) f s'):SP X pins (ze4 X.K H₀ H Gn) f s':=by
 cases f with
 |next=>obtain⟨a,b,e1,c,e2,e3,e4⟩:=h;exact⟨a,b,e1,c,e2,p.trans e3,e4⟩
 |brk=>obtain⟨a,b,e1,c,e2,e3,e4⟩:=h;exact⟨a,b,e1,c,e2,p.trans e3,e4⟩
 |cont=>obtain⟨a,b,e1,c,e2,e3,e4⟩:=h;exact⟨a,b,e1,c,e2,p.trans e3,e4⟩
 |ret u=>exact h
section
variable {X:Cx}{st:Stmt}{sts rest:List Stmt}{t u:GTS}{e:Expr}{te:DTE}{pos:Pos}
theorem DGS.of{t':TS}(h:PS X st t')(k:∀σ H H₀ σD Gn,DOk X.K H₀ H σD σ->t Gn σD->t' (ze4 X.K H₀ H Gn) σ H):DGS X st t :=
 ⟨λpins s σ H H₀ σD Gn I ok q=>h pins s σ H _ I (k σ H H₀ σD Gn ok q)⟩
def zuw(K:PySem.W.Frag)(t:GTS):TS:=λE σ H=>∃H₀ σD Gn,DOk K H₀ H σD σ/\t Gn σD/\(∀σ' H' σD',DOk K H₀ H' σD' σ'->Pers H H'->Gn.nx σD'->E.nx σ' H')/\(∀v H' σ' σD' d,DOk K H₀ H' σD' σ'->Rep K H' d v->Gn.rt d σD'->E.rt v H') /\
 (∀σ' H' σD',DOk K H₀ H' σD' σ'->Pers H H'->Gn.bk σD'->E.bk σ' H')/\∀σ' H' σD',DOk K H₀ H' σD' σ'->Pers H H'->Gn.ct σD'->E.ct σ' H'
theorem DGSs.ps(h:DGSs X sts t):PSs X sts (zuw X.K t):=by
 intro pins s σ H E I zz;obtain⟨H₀,σD,Gn,ok,q,k1,k2,k3,k4⟩:=zz;refine thn (h.run pins s σ H H₀ σD Gn I ok q) λf s' z=>?_
 cases f with
 |next=>obtain⟨a,b,e1,c,e2,e3,e4⟩:=z;exact⟨a,b,e1,k1 a b c e2 e3 e4⟩
 |brk=>obtain⟨a,b,e1,c,e2,e3,e4⟩:=z;exact⟨a,b,e1,k3 a b c e2 e3 e4⟩
 |cont=>obtain⟨a,b,e1,c,e2,e3,e4⟩:=z;exact⟨a,b,e1,k4 a b c e2 e3 e4⟩
 |ret u=>obtain⟨v,a,b,e1,e2,σ',σD',d,e3,e4,e5⟩:=z;exact⟨v,a,b,e1,e2,k2 v b σ' σD' d e3 e4 e5⟩
def zlc(t:DTS):GTS:=λGn σ=>t { nx:=Gn.nx,rt:=λ_=>False,bk:=Gn.bk,ct:=Gn.ct } σ
theorem zbr{t:DTS}(h:DS X st t):DGS X st (zlc t):=⟨λpins s σ H H₀ σD Gn I ok q=>thn (h.run pins s σ H H₀ σD _ I ok q) λf s' z=>by
 cases f with
 |next=>obtain⟨a,b,c,e1,e2,e3,e4⟩:=z;exact⟨a,b,e1,c,e2,e3,e4⟩
 |brk=>obtain⟨a,b,c,e1,e2,e3,e4⟩:=z;exact⟨a,b,e1,c,e2,e3,e4⟩
 |cont=>obtain⟨a,b,c,e1,e2,e3,e4⟩:=z;exact⟨a,b,e1,c,e2,e3,e4⟩
 |ret u=>obtain⟨v,a,b,r,e1,e2,e3,e4,e5⟩:=z;exact e5.elim⟩
def zri(t u:GTS):GTS:=λGn σ=>t { Gn with nx:=u Gn } σ
theorem zac(h1:DGS X st t)(h2:DGSs X rest u):DGSs X (st::rest) (zri t u):=⟨λpins s σ H H₀ σD Gn I ok q=>by
 refine wpAny_execs_cons (thn (h1.run pins s σ H H₀ σD { Gn with nx:=u Gn } I ok q) λf s1 z=>?_)
 cases f with
 |next=>
  obtain⟨σ',H',I',σD',ok',p,q'⟩:=z;exact thn (h2.run pins s1 σ' H' H₀ σD' Gn I' ok' q') λ_ _ y=>y.backG p
 |ret v=>exact z
 |brk=>exact z
 |cont=>exact z⟩
theorem jp(h1:DGS X st t):DGSs X [st] t:=⟨λpins s σ H H₀ σD Gn I ok q=>by
 refine wpAny_execs_cons (thn (h1.run pins s σ H H₀ σD Gn I ok q) λf s1 z=>?_)
 cases f with
 |next=>exact wpAny_execs_nil z
 |ret v=>exact z
 |brk=>exact z
 |cont=>exact z⟩
def zrj(te:DTE):GTS:=λGn σ=>te σ λd=>Gn.rt d σ
theorem zhu(he:DE X e te):DGS X (.Return (some e) pos) (zrj te) :=
 DGS.of (j0 he.pe) λσ H H₀ σD Gn ok q=>⟨H₀,σD,_,ok,q,λv H1 d s1 r1 q1=>⟨σ,σD,d,ok.after s1,r1,q1⟩⟩
end
abbrev zad:=DSt->(List W->List W->Prop)->Prop
structure DPG(X:Cx)(i:Nat)(es:List Expr)(t:zad):Prop where
 run:∀(pos:Pos) (pins:List (Addr×Obj)) (s:Shared) (σ:St) (H H₀:Hp) (σD:DSt) (Q:List W->List W->Prop),Inv X pins σ H s->DOk X.K H₀ H σD σ->t σD Q ->
  wpAny (model X.prog X.w) X.A (spliced (backTo pos (starEach es X.env))) (λus s'=>∃vp v vq H' wp wq,Inv X pins σ H' s'/\Vals (vp++v::vq) us/\Same H H'/\σ[i]?=some (some v)/\RepWs X.K H' wp vp/\RepWs X.K H' wq vq/\Q wp wq) X.xe s
section
variable {X:Cx}{e:Expr}{es:List Expr}{k k' i j:Nat}{x:Str}{ps:List Str}{sp:wu}{t:zad}{p pos:Pos}
def zae(K:PySem.W.Frag)(i:Nat)(sp:wu)(t:zad):TE:=λσ H Q=>∃H₀ σD o QD,DOk K H₀ H σD σ/\σD[i]?=some (some (.own o))/\t σD (λwp wq=>wp.all W.plain=true/\wq.all W.plain=true/\sp wp o.bare wq QD) /\
 ∀v H' d o',DOk K H₀ H' (clr (σD.set i (some (.own (o.with o'))))) σ->Pers H H'->Rep K H' d v->QD d o'->Q v H'
end
section
variable {P:Program}{w:World}{K:PySem.W.Frag}{mg:Str->Option Value}{base:Heap}
theorem DOk.beginG{H₀ H:Hp}{wp wq:List W}{vp vq:List V}{o:O}{a:Addr}{f:List Addr}(r1:RepWs K H₀ wp vp)(r2:RepWs K H₀ wq vq)(rO:RepO K H o (.ref a) f)(nf:f.Nodup)(fr:∀b∈f,H₀ b=none)(s:Same H₀ H)(N:List Str):
  DOk K H₀ H (qc N (wp ++ .own (.anc a o)::wq)) (start N (vp ++ .ref a::vq)):=by
 have rep:∀n:Nat,Slots K H₀ H (List.replicate n none) (List.replicate n none) []:=λn=>by
  induction n with
  |zero=>exact .nil
  |succ n ih=>exact .none ih
 have put:∀{ws:List W}{vs:List V},RepWs K H₀ ws vs->∀{τ:DSt}{ρ:St}{g:List Addr},Slots K H₀ H τ ρ g->Slots K H₀ H (ws.map some++τ) (vs.map some++ρ) g:=by
  intro ws vs r τ ρ g t
  induction r with
  |nil=>exact t
  |@cons w' v ws vs r _ ih=>
   cases w' with
   |val d=>exact .val (Rep.same s r) ih
   |vw xs=>exact .vw r ih
   |vd xs=>exact .vd r ih
   |exc xs=>exact .exc r ih
   |scr ns=>obtain⟨a,rfl,r⟩:=r;exact .scr r ih
   |pen=>obtain⟨a,rfl,r⟩:=r;exact .pen (s _ _ r) ih
   |tmp d=>exact r.elim
   |own o=>exact r.elim
 have e1:=r1.length;have e2:=r2.length;refine⟨s,f,?_,nf,fr⟩;unfold qc start;have z:=put r1 (Slots.own (o:=.anc a o) (v:=.ref a) ⟨rfl,rO⟩ (put r2 (rep (N.length-(wp++W.own (.anc a o)::wq).length))));rw[List.append_nil]at z;have el:(vp++V.ref a::vq).length=(wp++W.own (.anc a o)::wq).length:=by simp[e1,e2]
 rw[el];simpa using z
theorem Fun.dokG{x qual:Str}{st:Stmt}{f:Addr}{fd:FuncData}{N ps:List Str}{k:Nat}{sp:wu}(F:Fun K x qual st f fd)(S:zp N ps (zi st))(len:∀wp o wq Q,sp wp o wq Q->wp.length+1+wq.length=ps.length)
  (hbody:∀(cdv:Value) (A:Around) (outer:List Env) (s:Shared) (H:Hp) (a:Addr) (wp:List W) (o:O) (wq:List W) (Q:D->O->Prop) (E:XK),Room k (A.deeper (envOfC qual (zi st) s.heap.objs.size f cdv))->sp wp o wq Q ->
   ∃t,DGSs (zek CX0 P w K mg base N qual (zi st) f cdv A outer s H E).nox (yv st) t/\t { nx:=λσ=>∃o',σ[wp.length]?=some (some (.own (.anc a o')))/\Q .none o',rt:=λd σ=>∃o',σ[wp.length]?=some (some (.own (.anc a o')))/\Q d o' } (qc N (wp ++ .own (.anc a o)::wq))):FnOk P w K mg base CX0 (k+1) f fd ps (kc K sp):=by
 refine F.ok S (λvs H Q E h=>?_) λcdv A outer s H vs Q E hr h=>?_
 ·obtain⟨vp,a,vq,ws,o,wq,QD,H₀,f,rfl,r1,r2,_,_,_,_,q,_⟩:=h;rw[<-len _ _ _ _ q,r1.length,r2.length];simp only[List.length_append,List.length_cons];omega
 ·obtain⟨vp,a,vq,wp,o,wq,QD,H₀,f,rfl,r1,r2,rO,nf,fr,sm,q,kk⟩:=h;obtain⟨t,ht,hq⟩:=hbody cdv A outer s H a wp o wq QD E hr q
  have ends:∀{v H' σ' σD' d},DOk K H₀ H' σD' σ'->Rep K H' d v->(∃o',σD'[wp.length]?=some (some (.own (.anc a o')))/\QD d o')->Q v H':=by
   intro v H' σ' σD' d ok rp ⟨o',e,qd⟩;obtain⟨v',f',e1,ro,nf',fr',_⟩:=ok.focus e;obtain⟨rfl,ro⟩:=ro;exact kk v H' d o' f' ok.same rp ro nf' fr' qd
  exact⟨_,ht.ps,H₀,_,_,DOk.beginG r1 r2 rO nf fr sm N,hq,λσ' H' σD' ok' p' q'=>ends ok' .non q',λv H' σ' σD' d ok' rp qr=>ends ok' rp qr,λ_ _ _ _ _ z=>z.elim,λ_ _ _ _ _ z=>z.elim⟩
end
section
variable {X:Cx}{e ie:Expr}{pos:Pos}{te ta:DTE}{t1 t2:DTF}
end
section
variable {X:Cx}{a b:Expr}{rest:List Expr}{pos:Pos}
end
def zdt(f:Str)(d:D):List (Str×D)->List (Str×D)
 |[]=>[(f,d)]
 |(g,x)::r=>if g=f then (g,d)::r else (g,x)::zdt f d r
section
variable {K:PySem.W.Frag}{H:Hp}
theorem ze5{f:Str}{d:D}:∀{fs:List (Str×D)}{fv:List (Str×V)},fv.map (·.1)=fs.map (·.1)->Reps K H (fs.map (·.2)) (fv.map (·.2))->fs.lookup f=some d->∃v,fv.lookup f=some v/\Rep K H d v
 |[],_,_,_,h=>by simp at h
 |(g,x)::fs,[],e,_,_=>by simp at e
 |(g,x)::fs,(g',y)::fv,e,r,h=>by
  simp only[List.map_cons,List.cons.injEq]at e;obtain⟨rfl,e⟩:=e;simp only[List.map_cons]at r
  cases r with
  |cons r t=>
   cases c:f == g' with
   |true=>
    simp only[List.lookup_cons,c]at h ⊢
    cases h;exact⟨y,rfl,r⟩
   |false=>
    simp only[List.lookup_cons,c]at h ⊢;exact ze5 e t h
theorem ze6{f:Str}:∀{fs:List (Str×D)}{fv:List (Str×V)},fv.map (·.1)=fs.map (·.1)->fs.lookup f=none->fv.lookup f=none
 |[],[],_,_=>rfl
 |[],_::_,e,_=>by simp at e
 |(g,x)::fs,[],e,_=>rfl
 |(g,x)::fs,(g',y)::fv,e,h=>by
  simp only[List.map_cons,List.cons.injEq]at e;obtain⟨rfl,e⟩:=e
  cases c:f == g' with
  |true=>
   simp only[List.lookup_cons,c]at h
   cases h
  |false=>
   simp only[List.lookup_cons,c]at h ⊢;exact ze6 e h
theorem zhv{f:Str}{d:D}{v:V}(rv:Rep K H d v):∀{fs:List (Str×D)}{fv:List (Str×V)},fv.map (·.1)=fs.map (·.1)->Reps K H (fs.map (·.2)) (fv.map (·.2))->(wc f v fv).map (·.1)=(zdt f d fs).map (·.1)/\Reps K H ((zdt f d fs).map (·.2)) ((wc f v fv).map (·.2))
 |[],[],_,_=>⟨rfl,.cons rv .nil⟩
 |[],_::_,e,_=>by simp at e
 |(g,x)::fs,[],e,_=>by simp at e
 |(g,x)::fs,(g',y)::fv,e,r=>by
  simp only[List.map_cons,List.cons.injEq]at e;obtain⟨rfl,e⟩:=e;simp only[List.map_cons]at r
  cases r with
  |cons r t=>
   simp only[wc,zdt]
   by_cases c:g'=f
   ·rw[if_pos c,if_pos c];exact⟨by simp only[List.map_cons,e],.cons rv t⟩
   ·rw[if_neg c,if_neg c];obtain⟨h1,h2⟩:=zhv rv e t;exact⟨by simp only[List.map_cons,h1],.cons r h2⟩
end
section
variable {X:Cx}{e:Expr}{es:List Expr}{te:DTE}{t:DTP}{pos:Pos}{c f m x:Str}{C g:Addr}{i j k k':Nat}{fd:FuncData}{ps:List Str}{sp:wu}
def ze7(i:Nat)(c f:Str):DTE:=λσ Q=>match σ[i]? with
 |some (some (.own o))=>match o.bare with
  |.ins c' fs=>c'=c/\∃d,fs.lookup f=some d/\Q d
  |_=>False
 |_=>False
theorem znx(i:Nat){p1:Pos}(hC:PySem.W.nsIn X.K mainGlobals c=some (some (.ref C)))(cl:Cls X.K C)(na:NoAttr X.K C f)(hN:X.N[i]?=some x:=by rfl)(hv:Vis X.env.scope x:=by first|exact Or.inl rfl|exact Or.inr (Or.inl rfl)|exact Or.inr (Or.inr rfl))(hd:(x ==("__debug__" : Str))=false:=by decide)
  (hcd:(x ==("__classdict__" : Str))=false:=by decide) (hb:attributeBase (.Name x p1) f X.env (eval (.Name x p1) X.env)=eval (.Name x p1) X.env:=by rfl):DE X (.Attribute (.Name x p1) f pos) (ze7 i c f) :=
 DE.of (zp2 (yp (i:=i) hN hv hd hcd) hb) λσ H H₀ σD QD ok q=>by
  unfold ze7 at q
  split at q
  ·next o eo=>
   split at q
   ·next c' fs eb=>
    obtain⟨rfl,d,hl,q⟩:=q;obtain⟨v,fp,e1,rO,nf,fr,_⟩:=ok.focus eo;have r:=rO.bare;rw[eb]at r;obtain⟨a,dx,C',fv,rfl,rfl,hn,ea,ed,ek,rp⟩:=r;rw[hC]at hn
    cases hn;obtain⟨w,hw,rw'⟩:=ze5 ek rp hl;exact⟨.ref a,e1,a,C,dx,fv,w,rfl,ea,cl,na,hw,d,Same.refl _,rw',q⟩
   ·exact q.elim
  ·exact q.elim
def zhw(i:Nat)(c f:Str)(te:DTE):DTS:=λDn σ=>te σ λd=>match σ[i]? with
 |some (some (.own o))=>match o.bare with
  |.ins c' fs=>c'=c/\fs.length<1000/\Dn.nx (clr (σ.set i (some (.own (o.with (.ins c (zdt f d fs)))))))
  |_=>False
 |_=>False
theorem zny(i:Nat){p1 pos':Pos}(hC:PySem.W.nsIn X.K mainGlobals c=some (some (.ref C)))(cl:Cls X.K C)(na:NoAttr X.K C f)(he:DE X e te)(hN:X.N[i]?=some x:=by rfl)(hv:Vis X.env.scope x:=by first|exact Or.inl rfl|exact Or.inr (Or.inl rfl)|exact Or.inr (Or.inr rfl))(hd:(x ==("__debug__" : Str))=false:=by decide)
  (hcd:(x ==("__classdict__" : Str))=false:=by decide) (hs:swapsWith e (some (.Attribute (.Name x p1) f pos')) pos.line X.env=pure false:=by rfl):DS X (.Assign [.Attribute (.Name x p1) f pos'] e pos) (zhw i c f te) :=
 DS.of (zp3 (yp (i:=i) hN hv hd hcd) he.pe hs) λσ H H₀ σD Dn ok q=>⟨H₀,σD,_,ok,q,λv H1 d s1 r1 q1=>by
  split at q1
  ·next o eo=>
   split at q1
   ·next c' fs eb=>
    obtain⟨rfl,hl,q1⟩:=q1;obtain⟨w,fp,e1,rO,nf,fr,put⟩:=(ok.after s1).focus eo;have r:=rO.bare;rw[eb]at r;obtain⟨a,dx,C',fv,rfl,rfl,hn,ea,ed,ek,rp⟩:=r;have hn2:=hn;rw[hC]at hn2
    cases hn2;have hl2:fv.length<1000:=by
     have:=congrArg List.length ek;rw[List.length_map,List.length_map]at this;omega
    have hne:dx≠a:=λz=>by subst z;simp at nf
    have ps:=y9 (o':=.ins C dx (wc f v fv)) ea rfl;obtain⟨h1,h2⟩:=zhv (f:=f) r1 ek rp;obtain⟨ok2,pr⟩:=put (upd H1 a (.ins C dx (wc f v fv))) (o.with (.ins c' (zdt f d fs))) [a,dx] (λb u hb hu=>by rw[zj (λz=>hb (by rw[z];simp))];exact hu) nf (λb hb=>.inl hb)
     (rO.with (o':=.ins c' (zdt f d fs)) ⟨a,dx,C,wc f v fv,rfl,rfl,hn,zl,by rw[zj hne];exact ed,h1,h2.mono ps⟩)
    exact⟨.ref a,e1,a,C,dx,fv,rfl,ea,cl,na,hl2,_,ok2,s1.pers.trans pr,q1⟩
   ·exact q1.elim
  ·exact q1.elim⟩
def zhx(j:Nat)(c:Str)(sp:wu)(t:DTP):DTS:=λDn σ=>t σ λws=>sp [] (.ins c []) ws λd o'=>d=.none/\Dn.nx (σ.set j (some (.own o')))
theorem znz{y:Str}{pos' p cpos:Pos}(hN:X.N.Nodup)(hi:X.N[j]?=some y)(hx:Loc X.env.scope y)(M:Mk X.K C g)(F:FnOk X.prog X.w X.K X.mg X.base CX0 k g fd ps (kc X.K sp))(hr:Room k' X.A)(hg:Gl X c)(hm:X.mg c=some (.ref C))(hC:PySem.W.nsIn X.K mainGlobals c=some (some (.ref C)))
  (hb:Binds X.K fd ps []) (ha:DPs X (e::es) t) (hk:k+1<=k':=by decide) (hdb:(c ==("__debug__" : Str))=false:=by decide)
  (he:starEach (e::es) X.env=(false,eval e X.env)::starEach es X.env:=by rfl) (hpl:(backTo cpos (starEach es X.env)).any (·.1)=false:=by rfl)
  (hs:swapsWith (.Call (.Name c p) (e::es) [] cpos) (some (.Name y pos')) pos.line X.env=pure false:=by rfl) (hf:X.fn y=true\/X.env.scope.names.lookup y=some .local:=by first|exact .inl rfl|exact .inr rfl|assumption) :
  DS X (.Assign [.Name y pos'] (.Call (.Name c p) (e::es) [] cpos) pos) (zhx j c sp t) :=
 DS.of (vz hN hi hx (zmv M F (hr.mono hk) hg hm hb .nil zj0 ha.pa hdb he hpl) hs hf) λσ H H₀ σD Dn ok q=>⟨H₀,σD,_,ok,q,λvs H1 ws s1 r1 q1=>λz dx hz hdx hne=>by
  have sm:Same H1 (upd (upd H1 dx (.own z)) z (.ins C dx [])):=(zw hdx _).trans (zw (by rw[zj hne.symm];exact hz) _);refine⟨[],z,vs,[],.ins c [],ws,_,H1,[z,dx],by simp,.nil,r1,⟨z,dx,C,[],rfl,rfl,hC,zl,by rw[zj hne];exact zl,rfl,.nil⟩,by simp[hne.symm],?_,sm,q1,λv H' d o' f' s2 rp ro nf' hf' qd=>?_⟩
  ·intro b hb;simp only[List.mem_cons,List.not_mem_nil,or_false]at hb;rcases hb with rfl|rfl
   ·exact hz
   ·exact hdx
  ·obtain⟨rfl,qd⟩:=qd
   cases rp;exact⟨rfl,_,DOk.setF (ok.after s1) s2 hf' nf' ro j,(s1.trans s2).pers,qd⟩⟩
def jq(i:Nat)(c m:Str)(t:DTP):zad:=λσ Q=>match σ[i]? with
 |some (some (.own o))=>match o.bare with
  |.ins c' fs=>c'=c/\fs.lookup m=none/\t σ λwq=>Q [] wq
  |_=>False
 |_=>False
theorem zn0{K:PySem.W.Frag}{H H1 H₀:Hp}{σD:DSt}{σ:St}{o:O}{a:Addr}{vs:List V}{wq:List W}{QD:D->O->Prop}{Q:VK}(ok:DOk K H₀ H σD σ)(s1:Same H H1)(eo:σD[i]?=some (some (.own o)))(e1:σ[i]?=some (some (.ref a)))(r2:RepWs K H1 wq vs)(p2:wq.all W.plain=true)(q2:sp [] o.bare wq QD)
  (kq:∀v H' d o',DOk K H₀ H' (clr (σD.set i (some (.own (o.with o'))))) σ->Pers H H'->Rep K H' d v->QD d o'->Q v H') (E:XK):kc K sp (.ref a::(vs ++ [])) H1 Q E:=by
 obtain⟨v',f,e2,rO,nf,fr,put⟩:=(ok.after s1).focus eo;rw[e1]at e2
 cases e2;refine⟨[],a,vs,[],o.bare,wq,QD,zlb f H1,f,by simp,.nil,r2.mono (zi5 rO) (List.all_eq_true.mp p2),rO.bare,nf,λb hb=>zc4 hb,zi4,q2,λv2 H2 d o' f' s2 rp ro nf' hf' qd=>?_⟩;obtain⟨ok2,pr⟩:=put H2 (o.with o') f' (λb u hb hu=>s2 b u (by rw[za4 hb];exact hu)) nf' (λb hb=>by
  by_cases z:b∈f
  ·exact .inl z
  ·have:=hf' b hb;rw[za4 z]at this;exact .inr this) (rO.with ro)
 exact kq v2 H2 d o' ok2 (s1.pers.trans pr) rp qd
theorem zi6{pl:Sem Bool}{p1 apos:Pos}(hC:PySem.W.nsIn X.K mainGlobals c=some (some (.ref C)))(cl:Cls X.K C)(hm:zms X.K C m g)(F:FnOk X.prog X.w X.K X.mg X.base CX0 k g fd ps (kc X.K sp))(hr:Room k' X.A)(hb:Binds X.K fd ps [])(hk:k<=k':=by decide)
  (hN:X.N[i]?=some x:=by rfl) (hv:Vis X.env.scope x:=by first|exact Or.inl rfl|exact Or.inr (Or.inl rfl)|exact Or.inr (Or.inr rfl)) (hd:(x ==("__debug__" : Str))=false:=by decide) (hcd:(x ==("__classdict__" : Str))=false:=by decide)
  (ht:eval (.Call (.Attribute (.Name x p1) m apos) [] [] pos) X.env=(do
   let ov <-eval (.Name x p1) X.env
   standAt apos.atName
   let (f,first) <-holding [ov] (getMethod ov m pl)
   callWith pos f first (backTo pos (starEach [] X.env)) (backToKw pos (keywordEach [] X.env))):=by rfl) :
  PE X (.Call (.Attribute (.Name x p1) m apos) [] [] pos) (zae X.K i sp (jq i c m zes)):=by
 intro pins s σ H Q I ⟨H₀,σD,o,QD,ok,eo,q,kq⟩;unfold jq at q;rw[eo]at q;simp only[]at q
 split at q
 ·next c' fs eb=>
  obtain⟨rfl,hl,q⟩:=q;obtain⟨v,fp,e1,rO,nf,fr,_⟩:=ok.focus eo;have r:=rO.bare;rw[eb]at r;obtain⟨a,dx,C',fv,rfl,rfl,hn,ea,ed,ek,rp⟩:=r;rw[hC]at hn
  cases hn;exact zjv (C:=C) (yp (i:=i) hN hv hd hcd) cl hm F (hr.mono hk) hb .nil zj0 ht pins s σ H Q I ⟨.ref a,e1,a,dx,fv,rfl,ea,ze6 ek hl,zn0 (vs:=[]) ok (Same.refl _) eo e1 .nil q.2.1 q.2.2 kq E0⟩
 ·exact q.elim
end
section
variable {X:Cx}{e:Expr}{pos:Pos}{i j:Nat}{sp:wu}{t:zad}{a b:List Stmt}{ta tb:DTS}
def kx(i:Nat)(sp:wu)(t:zad)(N:D->DSt->Prop):DSt->Prop:=λσ=>match σ[i]? with
 |some (some (.own o))=>t σ λwp wq=>wp.all W.plain=true/\wq.all W.plain=true/\sp wp o.bare wq λd o'=>N d (clr (σ.set i (some (.own (o.with o')))))
 |_=>False
theorem ky{K:PySem.W.Frag}{H H₀:Hp}{σD:DSt}{σ:St}{N:D->DSt->Prop}{Q:VK}(ok:DOk K H₀ H σD σ)(q:kx i sp t N σD)(kq:∀v H' d σD',DOk K H₀ H' σD' σ->Pers H H'->Rep K H' d v->N d σD'->Q v H'):zae K i sp t σ H Q:=by
 unfold kx at q
 split at q
 ·next o eo=>exact⟨H₀,σD,o,_,ok,eo,q,λv H' d o' ok' pr rp qd=>kq v H' d _ ok' pr rp qd⟩
 ·exact q.elim
def zgr(i:Nat)(sp:wu)(t:zad):DTS:=λDn σ=>kx i sp t (λ_ σ'=>Dn.nx σ') σ
theorem zld(P:PE X e (zae X.K i sp t))(hs:swapsWith e none pos.line X.env=pure false:=by rfl):DS X (.Expr e pos) (zgr i sp t) :=
 DS.of (zhb P hs) λσ H H₀ σD Dn ok q=>ky ok q λv H' d σD' ok' pr rp qd=>⟨σD',ok',pr,qd⟩
def zrk(i:Nat)(sp:wu)(t:zad)(ta tb:DTS):DTS:=λDn σ=>kx i sp t (λd σ'=>match d with
 |.bool b=>if b=true then ta Dn σ' else tb Dn σ'
 |_=>False) σ
theorem zi7{p2:Pos}(P:PE X e (zae X.K i sp t))(ha:DSs X a ta)(hb:DSs X b tb)(he:∀whole,isTrue e X.env whole=(do let v <-whole;standAt e.pos;holding [v] (truthy v)):=by intro _;rfl):DS X (.If (.UnaryOp .Not e p2) a b pos) (zrk i sp t tb ta):=⟨λpins s σ H H₀ σD Dn I ok q=>by
 refine wpAny_If (isTrue_not (thn (zej P he pins s σ H (λc H'=>∃σD',DOk X.K H₀ H' σD' σ/\Pers H H'/\if c=true then tb Dn σD' else ta Dn σD') I (ky ok q λv H' d σD' ok' pr rp qd=>?_)) λc s1 ⟨H1,I1,σD',ok',pr,q1⟩=>?_))
 ·cases d with
  |bool c=>cases rp;exact⟨c,rfl,σD',ok',pr,qd⟩
  |_=>exact qd.elim
 ·cases c with
  |true=>exact thn (hb.run pins s1 σ H1 H₀ σD' Dn I1 ok' (by simpa using q1)) λ_ _ z=>z.back pr
  |false=>exact thn (ha.run pins s1 σ H1 H₀ σD' Dn I1 ok' (by simpa using q1)) λ_ _ z=>z.back pr⟩
end
def Its(x:Str):It:=⟨λi _=>i<x.cps.size,λi H v H'=>H'=H/\∃c,x.cps[i]?=some c/\v=.str ⟨#[c]⟩,λi _=>x.cps.size<=i⟩
theorem zi8{P:Program}{w:World}{K:PySem.W.Frag}{tg:Expr}(it:Addr)(x:Str)(t:Tok):zeh P w K tg (Its x) [it] it (λi h=>h.IsStrIter it "str_ascii_iterator" x t i) where
 mem:=by simp
 obj:=λi h st b hb=>by
  have e:b=it:=by simpa using hb
  subst e;obtain⟨o,e,c,d⟩:=st;exact⟨o,e,λv z=>by rw[d]at z;cases z⟩
 keep:=λi h h' st k=>by
  obtain⟨o,e,c,d⟩:=st;exact⟨o,k it (by simp) o e,c,d⟩
 item:=by
  intro X hP hw hK hc i pins s σ H E I hf st hg;subst hP hw hK;have hlt:i<x.cps.size:=hg;have hx:x.cps[i]?=some x.cps[i]:=by simp[hlt]
  obtain⟨f0,f1,f2,f3,f4,f5⟩:=hf it (by simp);refine wpAny_pyNext_ascii_item st hx λh' st' sb=>?_;have I1:Inv X pins σ H { s with heap:=h',toks:=s.toks+1 }:=I.turned (t':=s.toks+1) (λb o hb e=>(sb.2 b hb).trans e) f0 f1 f3 f4 f5;obtain⟨o,e,c,d⟩:=id st';exact⟨_,rfl,zhc (s:={ s with heap:=h',toks:=s.toks+1 }) e c d (by decide) ⟨.str ⟨#[x.cps[i]]⟩,H,I1,⟨_,rfl⟩,⟨rfl,_,hx,rfl⟩,st',λb hb=>(hf b hb).1⟩⟩
 done:=by
  intro X hP hw hK hc i pins s σ H E I hf st hg;subst hP hw hK;obtain⟨f0,f1,f2,f3,f4,f5⟩:=hf it (by simp);have hle:x.cps.size<=i:=hg;exact wpAny_pyNext_ascii_end (I.ok.hd hc) st (by simp[hle]) λh' eb=>⟨rfl,I.turned (t':=s.toks) (λb o hb e=>eb b o hb e) f0 f1 f3 f4 f5⟩
 self:=λ_ _ _ _ _ st h=>wpAny_pyIter_striter_ascii st h
def xl(x:Str):List D:=x.cps.toList.map λc=>.str ⟨#[c]⟩
theorem zrl{K:PySem.W.Frag}{Kp:Hp->Hp->Prop}{H1:Hp}(x:Str):ItOk K Kp (Its x) H1 (xl x) where
 go:=λH i d k e=>by
  unfold xl at e;rw[List.getElem?_map,Array.getElem?_toList]at e;obtain⟨c,hc,rfl⟩:=Option.map_eq_some_iff.mp e;have hi:i<x.cps.size:=by
   by_cases z:i<x.cps.size
   ·exact z
   ·simp[z]at hc
  refine⟨hi,λv H' y=>?_⟩;obtain⟨rfl,c2,h2,rfl⟩:=y;rw[hc]at h2
  cases h2;exact⟨Same.refl _,.str⟩
 stop:=λH k=>by
  show x.cps.size<=(xl x).length;simp[xl]
section
variable {X:Cx}{tg e:Expr}{te:DTE}
theorem zrm{l:Expr}{tl:TE}(hl:PE X l tl):PI X tg l (λσ H R=>tl σ H λx H1=>∃y,x=.str y/\y.cps.all (· < 128)=true/\R (Its y) H1):=by
 intro pins s σ H R I h;refine thn (hl pins s σ H _ I h) λv s1 ⟨x,H1,I1,r1,q1⟩=>?_;obtain⟨y,rfl,ha,q⟩:=q1;obtain⟨t,rfl⟩:=r1;refine wpAny_pyIter_ascii ha ?_;refine⟨s1.heap.objs.size,[s1.heap.objs.size],_,_,H1,rfl,I1.kept (t':=s1.toks) λb o e=>Heap.get?_push_of_some _ e,zi8 _ y t,⟨_,Heap.get?_push_size _ rfl,rfl,rfl⟩,λb hb=>?_,q⟩;have e:b=s1.heap.objs.size:=by simpa using hb
 subst e;exact I1.fpOk (Nat.le_refl _) (I1.hok.fresh (Nat.le_refl _))
def zle(te:DTE):DTF:=λσ Q=>te σ λd=>match d with
 |.str y=>y.cps.all (· < 128)=true/\Q (xl y)
 |_=>False
theorem zlf(h:DE X e te):DI X tg e (zle te):=⟨λpins s σ H R I ⟨H₀,σD,QD,ok,q,k⟩=>zrm h.pe pins s σ H R I ⟨H₀,σD,_,ok,q,λv H1 d s1 r1 q1=>by
 cases d with
 |str y=>
  cases r1;exact⟨y,rfl,q1.1,k _ _ _ s1 (zrl y) q1.2⟩
 |_=>exact q1.elim⟩⟩
end
section
variable {X:Cx}{e:Expr}{te:DTE}{pos p2:Pos}{lo hi:Option Expr}{tl th:DTO}
theorem zrn:SlR X (λx lo hi H Q=>∃y,x=.str y/\y.length<=sizeLine/\Q (.str (Txt.slice y lo hi)) H):=by
 intro pins s σ H x v vl vu lo hi sl Q I rx hs pl pu h;obtain⟨y,rfl,hz,q⟩:=h;obtain⟨t,rfl⟩:=rx;refine⟨"str",_,PySem.F.slot_str_getitem.lookup,typeIs_str _ _ _,?_⟩;have fin:∀(t':Tok) (k:Nat),EP X pins σ Q (.str (Txt.slice y lo hi) t') { s with toks:=k }:=λt' k=>⟨.str _,H,I.kept (t':=k) (λb o e=>e),⟨_,rfl⟩,q⟩
 cases pl with
 |none=>
  cases pu with
  |none=>exact wpAny_getItem_str_slice (l:=none) (u:=none) (st:=none) hs rfl (post_val_or_str ⟨Nat.le_trans (Txt.slice_le y _ _) hz,fin⟩)
  |int j uj=>exact wpAny_getItem_str_slice (l:=none) (u:=some (j,uj)) (st:=none) hs rfl (post_val_or_str ⟨Nat.le_trans (Txt.slice_le y _ _) hz,fin⟩)
 |int i ui=>
  cases pu with
  |none=>exact wpAny_getItem_str_slice (l:=some (i,ui)) (u:=none) (st:=none) hs rfl (post_val_or_str ⟨Nat.le_trans (Txt.slice_le y _ _) hz,fin⟩)
  |int j uj=>exact wpAny_getItem_str_slice (l:=some (i,ui)) (u:=some (j,uj)) (st:=none) hs rfl (post_val_or_str ⟨Nat.le_trans (Txt.slice_le y _ _) hz,fin⟩)
def zro(te:DTE)(tl th:DTO):DTE:=λσ Q=>te σ λd=>tl σ λl=>th σ λu=>match d with
 |.str y=>y.length<=sizeLine/\Q (.str (Txt.slice y l u))
 |_=>False
theorem xw(he:DE X e te)(hl:DO X lo tl)(hu:DO X hi th):DE X (.Subscript e (.Slice lo hi none p2) pos) (zro te tl th) :=
 DE.of (zen zrn he.pe hl.po hu.po) λσ H H₀ σD QD ok q=>⟨H₀,σD,_,ok,q,λv H1 d s1 r1 q1=>⟨H₀,σD,_,ok.after s1,q1,λl H2 s2 q2=>⟨H₀,σD,_,(ok.after s1).after s2,q2,λu H3 s3 q3=>by
  cases d with
  |str y=>
   cases r1;exact⟨y,rfl,q3.1,_,s1.trans (s2.trans s3),.str,q3.2⟩
  |_=>exact q3.elim⟩⟩⟩
end
section
variable {X:Cx}
theorem xx:MtR X "str.count" (λx vs H Q=>∃y z,x=.str y/\vs = [.str z]/\Q (.int (Txt.count y z)) H):=by
 intro pins s σ H x vs v us Q I rx rv h;obtain⟨y,z,rfl,rfl,q⟩:=h;obtain⟨t,rfl⟩:=rx;obtain⟨u,rfl,ru⟩:=rv.one;obtain⟨t',rfl⟩:=ru;exact SC.count ⟨.int _,H,I.tok _,⟨_,rfl⟩,q⟩
theorem zlg:MtR X "str.endswith" (λx vs H Q=>∃y z,x=.str y/\vs = [.str z]/\Q (.bl (Txt.endswith y z)) H):=by
 intro pins s σ H x vs v us Q I rx rv h;obtain⟨y,z,rfl,rfl,q⟩:=h;obtain⟨t,rfl⟩:=rx;obtain⟨u,rfl,ru⟩:=rv.one;obtain⟨t',rfl⟩:=ru;exact SC.endswith ⟨.bl _,H,I,rfl,q⟩
theorem zc5:∀{texts:List Str}{its:List Value},Vals (texts.map V.str) its->∃l:List (Str×Tok),its=strValues l/\l.map (·.1)=texts
 |[],_,r=>by cases r;exact⟨[],rfl,rfl⟩
 |x::texts,_,r=>by
  cases r with
  |cons h t=>
   obtain⟨u,rfl⟩:=h;obtain⟨l,rfl,rfl⟩:=zc5 t;exact⟨(x,u)::l,rfl,rfl⟩
theorem zlh:MtR X "str.join" (λx vs H Q=>∃y a texts,x=.str y/\vs = [.ref a]/\SqL X.K H a (texts.map V.str)/\JoinOk y texts=true/\Q (.str (Txt.join y texts)) H):=by
 intro pins s σ H x vs v us Q I rx rv h;obtain⟨y,a,texts,rfl,rfl,hR,hok,q⟩:=h;obtain⟨t,rfl⟩:=rx;obtain⟨u,rfl,ru⟩:=rv.one
 cases ru;obtain⟨its,r,pl,hz⟩:=I.list hR;obtain⟨l,rfl,hl⟩:=zc5 r;exact SC.join pl.isList hl hok λt' k=>⟨.str _,H,I.kept (t':=k) (λb o e=>e),⟨_,rfl⟩,q⟩
theorem zc6{K:PySem.W.Frag}{H:Hp}:∀{texts:List Str}{vs:List V},Reps K H (texts.map PyData.str) vs->vs=texts.map V.str
 |[],_,r=>by cases r;rfl
 |x::texts,_,r=>by
  cases r with
  |cons r t=>
   cases r;rw[zc6 t];rfl
variable {o e:Expr}{to te:DTE}{apos cpos:Pos}{name:Str}{id:String}{gV:Str->Str->V}{gD:Str->Str->D}
def zrp(g:Str->Str->D)(to te:DTE):DTE:=λσ Q=>to σ λd=>match d with
 |.str y=>te σ λk=>match k with
  |.str z=>Q (g y z)
  |_=>False
 |_=>False
theorem kz(slot:Slot "str" name id)(ty:typeOf (.builtin id)=pure (.type "method_descriptor"))(hm:MtR X id (λx vs H Q=>∃y z,x=.str y/\vs = [.str z]/\Q (gV y z) H))(rp:∀H y z,Rep X.K H (gD y z) (gV y z))(ho:DE X o to)(ha:DE X e te)
  (hbase:attributeBase o name X.env (eval o X.env)=eval o X.env:=by rfl)
  (hfew:((backTo cpos (starEach [e] X.env)).all (λx=>!x.1) && (backToKw cpos (keywordEach [] X.env)).all (λx=>x.1.isSome) && decide (([e]:List Expr).length+([]:List Keyword).length+(if ([]:List Keyword).isEmpty then 0 else 1)<30))=true:=by rfl)
  (hline:(apos.endLine == cpos.line)=true:=by rfl) (hs:starEach [e] X.env=(false,eval e X.env)::starEach [] X.env:=by rfl) (hplain:(backTo cpos (starEach [] X.env)).any (·.1)=false:=by rfl) :
  DE X (.Call (.Attribute o name apos) [e] [] cpos) (zrp gD to te) :=
 DE.of (zjx F.plainAttrs_str slot ty hm ho.pe (yu ha.pe xy hs) hbase hfew hline hs hplain) λσ H H₀ σD QD ok q=>⟨H₀,σD,_,ok,q,λv H1 d s1 r1 q1=>by
  cases d with
  |str y=>
   cases r1;refine⟨rfl,H₀,σD,_,ok.after s1,q1,λv2 H2 d2 s2 r2 q2=>?_⟩
   cases d2 with
   |str z=>
    cases r2;exact⟨y,z,rfl,rfl,_,s1.trans s2,rp _ _ _,q2⟩
   |_=>exact q2.elim
  |_=>exact q1.elim⟩
def zgs(to te:DTE):DTE:=λσ Q=>to σ λd=>match d with
 |.str y=>te σ λk=>match k with
  |.list xs=>∃texts:List Str,xs=texts.map PyData.str/\JoinOk y texts=true/\Q (.str (Txt.join y texts))
  |_=>False
 |_=>False
theorem zli(ho:DE X o to)(ha:DV X e te)(hbase:attributeBase o "join" X.env (eval o X.env)=eval o X.env:=by rfl)
  (hfew:((backTo cpos (starEach [e] X.env)).all (λx=>!x.1) && (backToKw cpos (keywordEach [] X.env)).all (λx=>x.1.isSome) && decide (([e]:List Expr).length+([]:List Keyword).length+(if ([]:List Keyword).isEmpty then 0 else 1)<30))=true:=by rfl)
  (hline:(apos.endLine == cpos.line)=true:=by rfl) (hs:starEach [e] X.env=(false,eval e X.env)::starEach [] X.env:=by rfl) (hplain:(backTo cpos (starEach [] X.env)).any (·.1)=false:=by rfl) :
  DE X (.Call (.Attribute o "join" apos) [e] [] cpos) (zgs to te) :=
 DE.of (zjx F.plainAttrs_str F.slot_str_join F.type_str_join zlh ho.pe (yu ha.pe xy hs) hbase hfew hline hs hplain) λσ H H₀ σD QD ok q=>⟨H₀,σD,_,ok,q,λv H1 d s1 r1 q1=>by
  cases d with
  |str y=>
   cases r1;refine⟨rfl,H₀,σD,_,ok.after s1,q1,λv2 H2 d2 s2 r2 q2=>?_⟩
   cases d2 with
   |list xs=>
    obtain⟨texts,rfl,hok,q3⟩:=q2;obtain⟨a,vs,rfl,hR,rp⟩:=r2.list;have ev:=zc6 rp;subst ev;exact⟨y,a,texts,rfl,rfl,.inl hR,hok,_,s1.trans s2,.str,q3⟩
   |_=>exact q2.elim
  |_=>exact q1.elim⟩
end
open PySem.Builtin PySem.Builtin.Str
section
variable {X:Cx}
variable {o e:Expr}{to te:DTE}{apos cpos:Pos}
end
end L2
namespace L2
open PySem PySem.Spec PyProof.Rows
open PySem.Builtin PySem.Builtin.Str
section
variable {X:Cx}
end
end L2
namespace L2
open PySem PySem.Spec PyProof.Rows
section
variable {X:Cx}
end
section
variable {X:Cx}{e:Expr}{te:DTE}{pos tpos px py ps:Pos}{k i j:Nat}{x y:Str}
end
end L2
namespace L2
open PySem PySem.Spec PyProof.Rows PySem.NumText
structure zu7(x:Str):Prop where
 dig:∀c∈x.cps.toList,48<=c/\c<=57
 ne:x.cps.toList ≠ []
 le:x.length<=10
 hd:x=Str.ofString "0" \/ x.cps.toList.head?≠some 48
end L2
namespace L2
open PySem PySem.Spec PyProof.Rows
section
variable {X:Cx}{e:Expr}{es:List Expr}
end
section
variable {X:Cx}{k v e f:Expr}{tk tv te tf:DTE}{apos cpos dpos:Pos}
end
theorem zdu:∀{ks:List (Key×D)}{vs:List (Key×V)} (k:Key),ks.map (·.1)=vs.map (·.1)->(ve vs k).isSome=(xp ks k).isSome
 |[],[],k,_=>rfl
 |[],_::_,k,h=>by cases h
 |_::_,[],k,h=>by cases h
 |p::ks,q::vs,k,h=>by
  rw[List.map_cons,List.map_cons,List.cons.injEq]at h;have ih:=zdu k h.2;unfold ve xp at ih ⊢;rw[List.find?_cons,List.find?_cons,h.1]
  by_cases c:q.1=k
  ·rw[decide_eq_true c];rfl
  ·rw[decide_eq_false c];exact ih
def zrq(ks:List (Key×D)):D->(Bool->Prop)->Prop
 |.int n,Q=>Q (xp ks (Sum.inl n)).isSome
 |.str n,Q=>Q (xp ks (Sum.inr n)).isSome
 |_,_=>False
def zn1(i:Nat)(f:Bool->Bool)(tk:DTE):DTE:=λσ Q=>tk σ λk=>match σ[i]? with
 |some (some (.own o))=>match o.bare with
  |.dct ks=>zrq ks k λb=>Q (.bool (f b))
  |_=>False
 |_=>False
section
variable {X:Cx}{k e f:Expr}{tk te tf:DTE}{p1 pos pos':Pos}
theorem zrr{f:Bool->Bool}{σ:St}{H H₀:Hp}{σD:DSt}{QD:D->Prop}{i:Nat}{q:TE}(ok:DOk X.K H₀ H σD σ)(t:zn1 i f tk σD QD):
  cnE X.K tk σ H λy H1=>∃a,σ[i]?=some (some (.ref a))/\∃o,DGet H1 a y o/\∃d,Same H H1/\Rep X.K H1 d (.bl (f o.isSome))/\QD d:=by
 refine⟨H₀,σD,_,ok,t,λv H1 d s1 r1 q1=>?_⟩
 split at q1
 ·next o eo=>
  split at q1
  ·next ks eb=>
   obtain⟨v',f',e1,rO,_⟩:=(ok.after s1).focus eo;have r:=rO.bare;rw[eb]at r;obtain⟨a,vs,rfl,rfl,ea,rk⟩:=r;refine⟨a,e1,?_⟩
   cases d with
   |int n=>
    cases r1;refine⟨_,DGet.k (k:=Sum.inl n) ea,_,s1,?_,q1⟩;rw[zdu _ rk.1];exact .bl
   |str n=>
    cases r1;refine⟨_,DGet.k (k:=Sum.inr n) ea,_,s1,?_,q1⟩;rw[zdu _ rk.1];exact .bl
   |_=>exact q1.elim
  ·exact q1.elim
 ·exact q1.elim
theorem zrs(i:Nat){x:Str}{m:Nat}(hr:Room m X.A)(hk:DE X k tk)(hN:X.N[i]?=some x:=by rfl)(hv:Vis X.env.scope x:=by first|exact Or.inl rfl|exact Or.inr (Or.inl rfl)|exact Or.inr (Or.inr rfl))(hd:(x ==("__debug__" : Str))=false:=by decide)(hcd:(x ==("__classdict__" : Str))=false:=by decide)
  (h1:behindInMarks .In (.Name x p1)=false:=by rfl):DT X (.Compare k [.In] [.Name x p1] pos) (dTB (zn1 i id tk)) :=
 DT.of (zjh (zrg (by have:=hr.un;omega) hk.pe (yp (i:=i) hN hv hd hcd)) h1) λσ H H₀ σD QD ok q=>by
  obtain⟨H0,s0,q0,ok',t,kk⟩:=zrr (q:=cnE X.K tk) ok q;exact⟨H0,s0,q0,ok',t,λv H1 d s1 r1 q1=>by obtain⟨a,e1,o,g,d',sm,rp,qd⟩:=kk v H1 d s1 r1 q1;cases rp;exact⟨.ref a,e1,a,o,rfl,g,_,rfl,sm,qd⟩⟩
def zlj(i:Nat)(tk tv:DTE):DTS:=λDn σ=>tv σ λd=>match σ[i]? with
 |some (some (.own o))=>match o.bare with
  |.dct ks=>tk σ λk=>match k with
   |.int n=>ks.length<sizeLine/\Dn.nx (clr (σ.set i (some (.own (o.with (.dct (zau ks (Sum.inl n) d)))))))
   |.str n=>ks.length<sizeLine/\Dn.nx (clr (σ.set i (some (.own (o.with (.dct (zau ks (Sum.inr n) d)))))))
   |_=>False
  |_=>False
 |_=>False
theorem zn2(i:Nat){x:Str}{m:Nat}{spos:Pos}(hr:Room m X.A)(hk:DE X k tk)(hv:DE X e te)(hN:X.N[i]?=some x:=by rfl)(hvis:Vis X.env.scope x:=by first|exact Or.inl rfl|exact Or.inr (Or.inl rfl)|exact Or.inr (Or.inr rfl))(hd:(x ==("__debug__" : Str))=false:=by decide)(hcd:(x ==("__classdict__" : Str))=false:=by decide)
  (hs:swapsWith e (some (.Subscript (.Name x p1) k pos')) spos.line X.env=pure false:=by rfl) :
  DS X (.Assign [.Subscript (.Name x p1) k pos'] e spos) (zlj i tk te) :=
 DS.of (zhq (by have:=hr.un;omega) (yp (i:=i) hN hvis hd hcd) hk.pe hv.pe hs) λσ H H₀ σD Dn ok q=>⟨H₀,σD,_,ok,q,λv H1 d s1 r1 q1=>by
  split at q1
  ·next o eo=>
   split at q1
   ·next ks eb=>
    obtain⟨v',f',e1,rO,_⟩:=(ok.after s1).focus eo;have r:=rO.bare;rw[eb]at r;obtain⟨a,vs,rfl,rfl,ea,rk⟩:=r;refine⟨.ref a,e1,H₀,σD,_,ok.after s1,q1,λv2 H2 d2 s2 r2 q2=>?_⟩;obtain⟨v3,f3,e3,rO3,nf,fr,put⟩:=((ok.after s1).after s2).focus eo;rw[e1]at e3
    cases e3;have r3:=rO3.bare;rw[eb]at r3;obtain⟨a3,vs3,e4,rfl,ea3,rk3⟩:=r3
    cases e4;have hl:∀{P:Prop},ks.length<sizeLine/\P->vs3.length<sizeLine:=λz=>by rw[<-rk3.len];exact z.1
    have fin:∀(kk:Key),DOk X.K H₀ (upd H2 a (.dK (wt vs3 kk v))) (clr (σD.set i (some (.own (o.with (.dct (zau ks kk d))))))) σ/\Pers H2 (upd H2 a (.dK (wt vs3 kk v))):=λkk=>by
     refine put _ _ [a] (λc u hc hu=>by rw[zj (λz=>hc (by rw[z];exact List.mem_singleton.mpr rfl))];exact hu) (List.nodup_cons.mpr ⟨List.not_mem_nil,List.nodup_nil⟩) (λc hc=>.inl hc) (rO3.with (o':=.dct (zau ks kk d)) ⟨a,_,rfl,rfl,zl,?_⟩);have:=rk3.put (k:=kk) (r1.same s2);exact⟨this.1,this.2.mono (y9 ea3 rfl)⟩
    cases d2 with
    |int n'=>
     cases r2;exact⟨a,_,rfl,DPut.k (k:=Sum.inl n') ea3 (hl q2),_,(fin _).1,(s1.trans s2).pers.trans (fin _).2,q2.2⟩
    |str n'=>
     cases r2;exact⟨a,_,rfl,DPut.k (k:=Sum.inr n') ea3 (hl q2),_,(fin _).1,(s1.trans s2).pers.trans (fin _).2,q2.2⟩
    |_=>exact q2.elim
   ·exact q1.elim
  ·exact q1.elim⟩
end
def MxAt(K:PySem.W.Frag)(H:Hp)(bs:List Addr)(u:V):Mx->Prop
 |.v d=>Rep K H d u
 |.l xs=>∃b vs,u=.ref b/\b∈bs/\H b=some (.lst vs)/\Reps K H xs vs
section
variable {K:PySem.W.Frag}{H H':Hp}
theorem MxAt.more{bs cs:List Addr}{u:V}{m:Mx}(h:MxAt K H bs u m)(k:∀b∈bs,b∈cs):MxAt K H cs u m:=by
 cases m with
 |v d=>exact h
 |l xs=>obtain⟨b,vs,e1,e2,e3⟩:=h;exact⟨b,vs,e1,k b e2,e3⟩
theorem MxR.at:∀{ms:List Mx}{us:List V}{bs:List Addr}{k:Nat}{m:Mx},MxR K H ms us bs->ms[k]?=some m->∃u,us[k]?=some u/\MxAt K H bs u m
 |[],_,_,k,m,_,e=>by simp at e
 |.v d::ms,u::us,bs,0,m,h,e=>by cases e;exact⟨u,rfl,h.1⟩
 |.v d::ms,u::us,bs,k+1,m,h,e=>by
  obtain⟨w,e1,r⟩:=MxR.at (k:=k) h.2 (by simpa using e);exact⟨w,by simpa using e1,r⟩
 |.l xs::ms,u::us,b::bs,0,m,h,e=>by
  cases e;obtain⟨e0,⟨vs,e1,r⟩,_⟩:=h;exact⟨u,rfl,b,vs,e0,List.mem_cons_self,e1,r⟩
 |.l xs::ms,u::us,b::bs,k+1,m,h,e=>by
  obtain⟨w,e1,r⟩:=MxR.at (k:=k) h.2.2 (by simpa using e);exact⟨w,by simpa using e1,r.more λc hc=>List.mem_cons_of_mem _ hc⟩
end
section
variable {X:Cx}{e ie:Expr}{te ti:DTE}{tf:DTF}{pos:Pos}
end
section
variable {X:Cx}{tg iter elt:Expr}{ifs:List Expr}{scope:Scope}{cl:List (Str×Addr)}{N' capt:List Str}{k:Nat}{js is:List Nat}{ti:DTF}{g:DTG}{tt:DTT}{tf:DTF}{pos:Pos}
end
end L2
namespace SV
open PySem
structure Bel(xs:Array Nat)(j b:Nat):Prop where
 le:b<=xs.size
 lo:∀i,i<b->xs.getD i 0<j
 hi:∀i,b<=i->i<xs.size->j<=xs.getD i 0
def Not(xs:Array Nat)(j:Nat):Prop:=xs[SetTable.below xs j]?≠some j
end SV
namespace SV
open PySem
end SV
namespace PySem
section
variable {prog:Program}{w:World}{K:Type}[DecidableEq K](knd:KeyKind prog w K)
variable {knd}
variable {A:Around}{E:Value->Shared->Prop}{s:Shared}
end
section
open PyProof.Rows
variable {prog:Program}{w:World}{A:Around}{R:Result->Shared->Prop}{I:Addr}{fp wr:List Addr}{G:Array GenState->Array GenState->Prop}{n:Nat}{P:Nat->Value->Prop}{St:Nat->Shared->Prop}
end
section
variable {prog:Program}{w:World}{A:Around}{E:Value->Shared->Prop}{s:Shared}
end
end PySem
namespace PySem
namespace F
end F
section
variable {prog:Program}{w:World}{A:Around}{E:Value->Shared->Prop}{s:Shared}{a:Addr}{o:Obj}{es:Array (Int×Value)}{ep:Nat}{t:SetTable}
end
end PySem
namespace PySem
section
variable {prog:Program}{w:World}{A:Around}{E:Value->Shared->Prop}{s:Shared}{a:Addr}{o:Obj}{es:Array (Int×Value)}{ep:Nat}{t:SetTable}
def IsSI(h:Heap)(I:Addr)(fs:Array Value):Prop:=∃u,h.get? I=some u/\u.cls=.type "set_iterator" /\ u.data=.fields fs
end
end PySem
namespace SV
open PySem
def sl(t:SetTable)(i:Nat):Nat:=if i=0 then 0 else t.place.getD (i-1) 0+1
end SV
namespace PySem
section
variable {prog:Program}{w:World}{A:Around}{E:Value->Shared->Prop}{s:Shared}{a:Addr}{o:Obj}{es:Array (Int×Value)}{ep:Nat}{t:SetTable}
theorem IsSI.at{h h':Heap}{I:Addr}{fs:Array Value}(x:IsSI h I fs)(e:∀o,h.get? I=some o->h'.get? I=some o):IsSI h' I fs:=let ⟨u,hu,r⟩:=x;⟨u,e _ hu,r⟩
end
end PySem
namespace SV
open PySem
section
variable {prog:Program}{w:World}{A:Around}{E:Value->Shared->Prop}{s:Shared}{a:Addr}{o:Obj}{es:Array (Int×Value)}{ep:Nat}{t:SetTable}
end
end SV
namespace SQ
open PySem PyProof.Rows
theorem IntsAre.mk:∀{us:List Value},(∀v∈us,∃n t,v=.int n t)->∃ns,IntsAre us ns
 |[],_=>⟨[],.nil⟩
 |u::us,h=>by
  obtain⟨n,t,rfl⟩:=h u List.mem_cons_self;obtain⟨ns,e⟩:=IntsAre.mk λv hv=>h v (List.mem_cons_of_mem _ hv);exact⟨n::ns,.cons n t e⟩
section
variable {prog:Program}{w:World}{A:Around}{E:Value->Shared->Prop}{s:Shared}{a:Addr}{o:Obj}{es:Array (Int×Value)}{ep:Nat}{t:SetTable}
end
end SQ
namespace L2
open PySem PySem.Spec PyProof.Rows SQ
theorem nodup_len:∀{xs ys:List Int},xs.Nodup->(∀x∈xs,x∈ys)->ys.length<=xs.length->ys.Perm xs
 |[],ys,_,_,h=>by
  have:ys = []:=List.length_eq_zero_iff.mp (by simpa using h);subst this;exact .refl _
 |x::xs,ys,hn,hs,h=>by
  obtain⟨h1,h2⟩:=List.nodup_cons.mp hn;have hx:=hs x List.mem_cons_self;have p:=List.perm_cons_erase hx;refine p.trans (List.Perm.cons x (nodup_len h2 (λz hz=>?_) ?_))
  ·exact(List.mem_erase_of_ne (λe=>h1 (by rw[<-e];exact hz))).mpr (hs z (List.mem_cons_of_mem _ hz))
  ·have:=p.length_eq;simp at this h ⊢;omega
section
variable {X:Cx}{a:Expr}{p pos p2 pos2:Pos}
end
end L2
namespace SQ
open PySem PyProof.Rows
section
variable {prog:Program}{w:World}{A:Around}{E:Value->Shared->Prop}{s:Shared}{a:Addr}{o:Obj}{es:Array (Int×Value)}{ep:Nat}{t:SetTable}
end
end SQ
namespace L2
open PySem PySem.Spec PyProof.Rows SQ
section
variable {X:Cx}{a:Expr}{p pos p2 pos2:Pos}
end
end L2
namespace L2
open PySem PySem.Spec PyProof.Rows
section
variable {X:Cx}{pins:List (Addr×Obj)}{σ:St}{H:Hp}{s:Shared}{P c:Addr}{q:Str}
end
section
variable {X:Cx}{pins:List (Addr×Obj)}{σ:St}{H:Hp}{a it S f:Addr}{xs:List V}{kf:Nat->Int}{kwd:List (Str×Value)}{R:Value->Shared->Prop}
structure zu8(X:Cx)(pins:List (Addr×Obj))(σ:St)(H:Hp)(a it S:Addr)(xs:List V)(kf:Nat->Int)(j i:Nat)(H1:Hp)(s:Shared):Prop where
 I:Inv X pins σ H1 s
 sm:Same H H1
 st:s.heap.IsTupleIter it a j
 f1:FpOk X pins H1 it
 f2:FpOk X pins H1 S
 ne:it≠S
 best:∃vb tb c x,s.heap.get? S=some (seqObj "list" #[vb,.int (kf i) tb] c)/\xs[i]?=some x/\RelV x vb
 lt:i<j
 mx:∀j',j' < j->kf j'<=kf i/\(j' < i->kf j' < kf i)
theorem FpOk.at{b:Addr}{H1 H2:Hp}(h:FpOk X pins H1 b)(n:H2 b=none):FpOk X pins H2 b:=⟨n,h.2⟩
end
section
variable {X:Cx}{pins:List (Addr×Obj)}{σ:St}{H:Hp}{a f:Addr}{xs:List V}{kf:Nat->Int}{R:Value->Shared->Prop}{s:Shared}
end
section
variable {X:Cx}{a body:Expr}{ta:DTF}{tb:DTE}{p pos kp kp2 lp cp:Pos}{k:Nat}{P c:Addr}{q y:Str}{params:Arguments}{scope:Scope}{N:List Str}
end
section
variable {X:Cx}{e:Expr}{es:List Expr}{k k':Nat}{x q:Str}{T:Addr}{ps:List Str}{sp:DSp}{t:DTP}{p pos:Pos}
end
section
variable {P:Program}{w:World}{K:PySem.W.Frag}{mg:Str->Option Value}{base:Heap}
end
section
variable {T a:Addr}{K:PySem.W.Frag}{h:Heap}
end
end L2
namespace PySem
open Sem (wp)
section
variable {prog:Program}{w:World}{A:Around}{E:Value->Shared->Prop}{h:Heap}{g:Array GenState}{d:Drawn}{t:Nat}{os:OsState}
variable {nm q:Str}{C N:Addr}{bs bm bmB bmN:List Value}{hdct:Bool}{sn:List Str}{sub:List Value}{ab:Bool}{col:Option Bool}{dd:Option Addr}{k0 k1 k2 k3 k5:Option Value}{B Bn newId nid initId inN:String}
end
end PySem
namespace PySem
open Sem (wp)
open Builtin Builtin.ObjectAttr
section
variable {prog:Program}{w:World}{A:Around}{E:Value->Shared->Prop}{h:Heap}{g:Array GenState}{d:Drawn}{t:Nat}{os:OsState}
variable {nm q:Str}{C N x:Addr}{bs bm bmB:List Value}{sn:List Str}{sub:List Value}{ab:Bool}{col:Option Bool}{dd:Option Addr}{k0 k1 k2 k3 k5:Option Value}{B newId sa owner:String}
 {mA:Str->Option Value}{name:Str}{v:Value}
end
end PySem
namespace PySem
open Sem (wp)
section
variable {M:Model}{A:Around}{E:Value->Shared->Prop}{s:Shared}{env:Env}
variable {nm q:Str}{C N:Addr}{bs bm bmB bmN:List Value}{hdct:Bool}{sn:List Str}{sub:List Value}{ab:Bool}{col:Option Bool}{dd:Option Addr}{k0 k1 k2 k3 k5:Option Value}{B Bn newId nid initId inN:String}
end
section
variable {prog:Program}{w:World}{A:Around}{E:Value->Shared->Prop}{s:Shared}{env:Env}
variable {nm q:Str}{C N:Addr}{bs bm bmB bmN:List Value}{hdct:Bool}{sn:List Str}{sub:List Value}{ab:Bool}{col:Option Bool}{dd:Option Addr}{k0 k1 k2 k3 k5:Option Value}{B Bn newId nid initId inN:String}
end
end PySem
namespace L2
open PySem PySem.Spec PyProof.Rows
def zrt(K:PySem.W.Frag)(C:Addr)(bmB:List Value)(newId:String)(fI:Addr):Bool:=match K.lookup C with
 |some ⟨.type "type",_,.cls cd,sl⟩=>(match cd.mro,sl.toList with
  |.ref C'::bm,[_,_,_,_,some (.builtin n),_]=>C' == C && n == newId && !cd.hasDel && cd.hasDict && PySem.W.tailIn K bmB bm && PySem.W.nsOkIn K cd.ns && PySem.W.nsIn K cd.ns "__init__" == some (some (.ref fI))
  |_,_=>false)
 |_=>false
section
variable {X:Cx}{pins:List (Addr×Obj)}{σ:St}{H:Hp}{s:Shared}
end
def zlk(C t:Addr)(od:Option Addr):Obj:={ cls:=.ref C,dict:=od,data:=.fields #[.ref t,.none,.none,.none,.bool false,.none] }
def zru(C t:Addr)(od:Option Addr)(a:Addr):HO:=.ext λh=>h.get? a=some (zlk C t od)
structure XI(X:Cx)(σ:St)(H:Hp)(s:Shared)(e C t:Addr)(od:Option Addr)(mA:Str->Option Value)(c:Nat):Prop where
 I:Inv X [] σ H s
 tr:H e=some (zru C t od e)
 no:od=none->∀n,mA n=none
 ns:∀d,od=some d->d≠e/\s.heap.Ns1 d mA/\FpOk X [] H d
 few:∃ks,Within mA ks/\ks.length<=c
structure zu9(K:PySem.W.Frag)(C fI:Addr)(fs:List Str):Prop where
 cls:zrt K C [.type "ValueError",.type "Exception",.type "BaseException",.type "object"] "ValueError.__new__" fI=true
 sa:PySem.W.findIn K (.ref C) "__setattr__" = some (some (.builtin "object.__setattr__"))
 at_:∀f∈fs,PySem.W.findIn K (.ref C) f=some none
section
variable {X:Cx}{σ:St}{H:Hp}{s:Shared}{e C t fI:Addr}{od:Option Addr}{mA:Str->Option Value}{fs:List Str}{c:Nat}
theorem XI.ob(x:XI X σ H s e C t od mA c):s.heap.get? e=some (zlk C t od):=(x.I.hok e _ x.tr).1
end
def zux(fs:List Str)(ns:List Int):List (Str×V):=(fs.zip ns).map λp=>(p.1,V.int p.2)
def zn3(P:Program)(w:World)(outer:List Env)(H:Hp)(s s':Shared)(e C t:Addr)(fv:List (Str×V)):Prop :=
 ∃d H',s'.os=s.os/\AllBare s'.gens/\Un (frs outer) [] H H' s.heap s'.heap/\HOk P w H' s'.heap/\H' e=some (zru C t (some d) e)/\H' d=some (.xd fv)/\But e H H'/\d≠e/\H d=none
structure zuy(P:Program)(w:World)(K:PySem.W.Frag)(mg:Str->Option Value)(base:Heap)(k:Nat)(C fI:Addr)(fs:List Str):Prop where
 run:∀(A:Around) (outer:List Env) (s:Shared) (H:Hp) (e t:Addr) (ns:List Int) (us:List Value),Room k A->Env0 P w K mg base A outer s H->H e=some (zru C t none e)->Vals (ns.map V.int) us->ns.length=fs.length ->
  codeAny (model P w) A (.call (.ref fI) ⟨.ref e::us,[]⟩) (λr s'=>r=.ok (.ret .none)/\zn3 P w outer H s s' e C t (zux fs ns)) s
section
variable {P:Program}{w:World}{K:PySem.W.Frag}{mg:Str->Option Value}{base:Heap}{k:Nat}{C fI:Addr}{fd:FuncData}{qual:Str}{st:Stmt}
end
section
variable {P:Program}{w:World}{K:PySem.W.Frag}{mg:Str->Option Value}{base:Heap}{N:List Str}{qual:Str}{scope:Scope}{f:Addr}{cd:Value}{A:Around}{outer:List Env}{s:Shared}{H:Hp}{E:XK}
end
end L2
namespace L2
open PySem PySem.Spec PyProof.Rows PySem.W
section
variable {prog:Program}{w:World}{A:Around}{E:Value->Shared->Prop}{s:Shared}{K:Frag}{x C:Addr}{ox:Obj}{od:Option Obj}{name:Str}{v:Value}
end
section
variable {X:Cx}{pos p:Pos}
end
end L2
namespace L2
open PySem PySem.Spec PyProof.Rows
section
variable {X:Cx}{e:Expr}{es rest:List Expr}{k k':Nat}{x:Str}{ps:List Str}{sp:DSp}{t:DTP}{p cpos:Pos}
end
section
variable {X:Cx}
variable {o e:Expr}{to te:DTE}{apos cpos:Pos}
end
section
variable {X:Cx}{pos p:Pos}
end
section
variable {X:Cx}{e:Expr}{pos p:Pos}
end
section
variable {X:Cx}{a b c d:Expr}{ta tb tc td:DTE}{pos:Pos}
end
section
variable {X:Cx}
def zuz(X:Cx)(t:DTS):TS:=λE σ H=>∃σD Dn,DOk X.K X.H₀ H σD σ/\t Dn σD/\(∀σ' H' σD',DOk X.K X.H₀ H' σD' σ'->Pers H H'->Dn.nx σD'->E.nx σ' H')/\(∀v H' r,Same X.H₀ H'->zgi X.K X.H₀ H' r v->Dn.rt r->E.rt v H') /\
 (∀σ' H' σD',DOk X.K X.H₀ H' σD' σ'->Pers H H'->Dn.bk σD'->E.bk σ' H')/\∀σ' H' σD',DOk X.K X.H₀ H' σD' σ'->Pers H H'->Dn.ct σD'->E.ct σ' H'
theorem DSXs.ps{sts:List Stmt}{t:DTS}(h:DSXs X sts t):PSs X sts (zuz X t):=λpins s σ H E I ⟨σD,Dn,ok,q,k1,k2,k3,k4⟩=>thn (h.run pins s σ H σD Dn I ok q) λf s' z=>by
 cases f with
 |next=>obtain⟨a,b,c,e1,e2,e3,e4⟩:=z;exact⟨a,b,e1,k1 a b c e2 e3 e4⟩
 |brk=>obtain⟨a,b,c,e1,e2,e3,e4⟩:=z;exact⟨a,b,e1,k3 a b c e2 e3 e4⟩
 |cont=>obtain⟨a,b,c,e1,e2,e3,e4⟩:=z;exact⟨a,b,e1,k4 a b c e2 e3 e4⟩
 |ret u=>obtain⟨v,a,b,r,e1,e2,e3,e4,e5⟩:=z;exact⟨v,a,b,e1,e2,k2 v b r e3 e4 e5⟩
theorem DSX.of{st:Stmt}{t:DTS}{t':TS}(h:PS X st t')(k:∀σ H σD Dn,DOk X.K X.H₀ H σD σ->t Dn σD->t' (zku X.K X.H₀ H Dn) σ H):DSX X st t :=
 ⟨λpins s σ H σD Dn I ok q=>thn (h pins s σ H _ I (k σ H σD Dn ok q)) λ_ _ z=>z.dsp⟩
end
section
variable {X:Cx}{pins:List (Addr×Obj)}{σ:St}{H:Hp}{s:Shared}
end
end L2
namespace PySem
section
variable {prog:Program}{w:World}{A:Around}{E:Value->Shared->Prop}{s:Shared}
end
end PySem
namespace L2
open PySem PySem.Spec PyProof.Rows SQ
section
variable {X:Cx}{a:Expr}{p pos p2 pos2:Pos}
end
end L2
namespace L2
open PySem PySem.Spec PyProof.Rows
section
variable {X:Cx}{pos p:Pos}
end
section
variable {prog:Program}{w:World}{A:Around}{R:Result->Shared->Prop}{s:Shared}{elt t1 i1 t2 i2:Expr}{f1 f2:List Expr}{scope:Scope}{pos:Pos}{it acc:Value}{env:Env}
end
section
variable {X:Cx}
end
section
variable {K:PySem.W.Frag}{H₀ H H':Hp}
end
section
variable {X:Cx}{elt tg iter t2 i2:Expr}{ifs ifs2:List Expr}{scope:Scope}{pos:Pos}{cl:List (Str×Addr)}{N' capt:List Str}{k:Nat}{js is is2:List Nat}{ti ti2:DTF}{g g2:DTG}{tt tt2:DTT}{te:DTE}
end
section
variable {X:Cx}
variable {elt tg iter t2 i2:Expr}{ifs ifs2:List Expr}{scope:Scope}{pos:Pos}{cl:List (Str×Addr)}{N' capt:List Str}{k:Nat}{js is is2:List Nat}{ti ti2:DTF}{g g2:DTG}{tt tt2:DTT}{te:DTE}
end
section
variable {X:Cx}{e:Expr}{es:List Expr}{pos:Pos}{i j:Nat}{sp:wu}{t:zad}
end
section
variable {K:PySem.W.Frag}{H₀ H Hb H':Hp}{σD:DSt}{σ:St}
end
section
variable {X:Cx}{elt tg iter:Expr}{ifs:List Expr}{scope:Scope}{pos:Pos}{cl:List (Str×Addr)}{N' capt:List Str}{k:Nat}{js is:List Nat}{ti:DTF}{g:DTG}{tt:DTT}{sp:wu}{t:zad}
end
section
variable {X:Cx}
variable {o e:Expr}{to te:DTE}{apos cpos:Pos}
end
end L2
namespace SQ
open PySem PyProof.Rows
set_option autoImplicit false
def zu0(h:Heap)(v:Value)(is:List Int):Prop:=∃a its n t u js,v=.ref a/\IsTup h a its/\its.toList = [.int n t,u]/\RefIs h u js/\is=n::js
open Classical in
noncomputable def key2 (h:Heap) (v:Value):Option (List Int):=if x:∃is,zu0 h v is then some x.choose else none
@[reducible] noncomputable def prK (h:Heap):KeyKind:={ zuq h with keyOf:=λv=>key2 h v }
section
variable {prog:Program}{w:World}{A:Around}{E:Value->Shared->Prop}{s:Shared}
theorem items_int{vs:List Value}{ns:List Int}(h:IntsAre vs ns):ItemsAre (intKind prog w) ns vs:=by
 induction h with
 |nil=>exact .nil
 |cons n t h ih=>exact .cons (by simp[intKind,Value.isInt]) ih
theorem All2.perm{α β:Type}{R:α->β->Prop}{as' as:List α}(p:as'.Perm as):∀{bs:List β},All2 R as bs->∃bs',All2 R as' bs'/\bs'.Perm bs:=by
 induction p with
 |nil=>intro bs h;exact⟨bs,h,.refl _⟩
 |cons x p ih=>
  intro bs h
  cases h with
  |cons h t=>
   obtain⟨bs',h',p'⟩:=ih t;exact⟨_,.cons h h',p'.cons _⟩
 |swap x y l=>
  intro bs h
  cases h with
  |cons h t=>
   cases t with
   |cons h2 t=>exact⟨_,.cons h2 (.cons h t),.swap _ _ _⟩
 |trans p1 p2 ih1 ih2=>
  intro bs h;obtain⟨b1,h1,q1⟩:=ih2 h;obtain⟨b2,h2,q2⟩:=ih1 h1;exact⟨b2,h2,q2.trans q1⟩
end
end SQ
namespace L2
open PySem PySem.Spec PyProof.Rows SQ
def kL(l:Int×List Int):List Int:=l.1::l.2
section
variable {X:Cx}{pins:List (Addr×Obj)}{σ:St}{H:Hp}{s:Shared}
end
end L2
namespace L2
open PySem PySem.Spec PyProof.Rows SQ
section
variable {X:Cx}{pins:List (Addr×Obj)}{σ:St}{H:Hp}{s:Shared}
end
section
variable {X:Cx}{a body:Expr}{ta:DTF}{tb:DTE}{p pos kp lp:Pos}{k:Nat}{P c:Addr}{q y:Str}{params:Arguments}{scope:Scope}{N:List Str}
end
end L2
namespace PySem.AutoSeq1
open PySem.MeetsSeq PySem.MeetsSeq2 PySem.MeetsSeq3
end PySem.AutoSeq1
namespace L2
open PySem PySem.Spec PyProof.Rows
section
variable {X:Cx}{e:Expr}{te:DTE}{pos:Pos}
end
def zdv:List D->(D->Prop)->Prop
 |[.int a,.int b],Q=>zj5 a b/\Q (.tuple [.int (a / b),.int (a % b)])
 |_,_=>False
section
variable {X:Cx}
theorem qf:CallD X (.builtin "divmod") zdv:=⟨λpins s σ H vs us ds Q I rv rd q=>by
 match ds,q,rd with
 |[.int a,.int b],q,rd=>
  obtain⟨v1,v2,rfl,r1,r2⟩:=rd.two
  cases r1.int
  cases r2.int;obtain⟨u1,u2,rfl,q1,q2⟩:=rv.two;obtain⟨t1,rfl⟩:=q1;obtain⟨t2,rfl⟩:=q2;obtain⟨hc,q⟩:=q;have h0:b≠0:=by have:=hc.1;omega
  have e1:a.fdiv b=a / b:=Int.fdiv_eq_ediv_of_nonneg a (by have:=hc.1;omega);have e2:a.fmod b=a % b:=Int.fmod_eq_emod_of_nonneg a (by have:=hc.1;omega);refine divmod_int h0 ?_ (.inl (PyProof.noPylong_of_log2 ?_))
  ·rw[e1,e2];have hn:H s.heap.objs.size=none:=I.hok.fresh (Nat.le_refl _);refine⟨.ref s.heap.objs.size,_,.tuple [.int (a / b),.int (a % b)],I.laid (t':=s.toks+1+1) (o:=.tup [.int (a / b),.int (a % b)]) (λc ob z=>Heap.get?_push_of_some _ z) (Nat.le_refl _) ⟨by rw[sizeLine_eq];simp,[.int (a / b) s.toks,.int (a % b) (s.toks+1)],.cons ⟨_,rfl⟩ (.cons ⟨_,rfl⟩ .nil),TupD.new _ _⟩,rfl,zw hn _,?_,q⟩;exact .tup (SqT.of zl) (.cons .int (.cons .int .nil))
  ·have h1:b.natAbs<2 ^ 400:=Nat.lt_of_lt_of_le (show b.natAbs<10000000000000000000000000000000000000000000000000000000000000 by have h1:=hc.1;have h2:=hc.2;omega) (by decide +kernel);have h2:b.natAbs≠0:=by omega
   exact Nat.lt_of_lt_of_le ((Nat.log2_lt h2).mpr h1) (by decide)⟩
end
section
variable {K:PySem.W.Frag}{H:Hp}
end
section
variable {X:Cx}{tk te:DTE}{pos:Pos}
end
section
variable {X:Cx}{tk te:DTE}{pos:Pos}
def zgt(i:Nat)(tk te:DTE):DTS:=λDn σ=>tk σ λk=>te σ λd=>match k with
 |.int n=>Dn.nx (σ.set i (some (.own (.dct [(Sum.inl n,d)]))))
 |.str n=>Dn.nx (σ.set i (some (.own (.dct [(Sum.inr n,d)]))))
 |_=>False
theorem zll{i:Nat}{x:Str}{k e:Expr}{pos' p2:Pos}(hN:X.N.Nodup)(hi:X.N[i]?=some x)(hx:Loc X.env.scope x)(hk:DE X k tk)(he:DE X e te)(hs:swapsWith (.Dict [some k] [e] p2) (some (.Name x pos')) pos.line X.env=pure false:=by rfl)(hf:X.fn x=true\/X.env.scope.names.lookup x=some .local:=by first|exact .inl rfl|exact .inr rfl|assumption):
  DS X (.Assign [.Name x pos'] (.Dict [some k] [e] p2) pos) (zgt i tk te) :=
 DS.of (vz hN hi hx (znv (ze2 hk.pe he.pe zhr) rfl rfl (by simp) (by simp)) hs hf) λσ H H₀ σD Dn ok q=>λp hp=>by
  refine⟨H₀,σD,_,ok.after (zw hp _),q,λv2 H2 d2 s2 r2 q2=>⟨H₀,σD,_,(ok.after (zw hp _)).after s2,q2,λv3 H3 d3 s3 r3 q3=>?_⟩⟩;have e3:H3 p=some (.dK []):=(s2.trans s3) _ _ zl;have sm:∀o',Same H (upd H3 p o'):=λo' b z hb=>by rw[zj (z0 hb hp)];exact(s2.trans s3) _ _ (zw hp _ _ _ hb)
  have fin:∀kk:Key,Dn.nx (σD.set i (some (.own (.dct [(kk,d3)]))))->H3 p=some (.dK [])/\∃kvs:List (Key×V),[(kV kk,v3)]=kvs.map (λkv=>(kV kv.1,kv.2))/\kvs.length<=15/\∃σD',DOk X.K H₀ (upd H3 p (.dK (ku [] kvs))) σD' (σ.set i (some (.ref p)))/\Pers H (upd H3 p (.dK (ku [] kvs)))/\Dn.nx σD':=λkk qq=>
   ⟨e3,[(kk,v3)],rfl,by simp,_,ok.setOD (sm _) hp zl (xs:=[(kk,d3)]) (vs:=[(kk,v3)]) (.cons (r3.mono (y9 e3 rfl)) RepKV.nil') i,(sm _).pers,qq⟩
  cases d2 with
  |int n=>cases r2;exact fin (Sum.inl n) q3
  |str n=>cases r2;exact fin (Sum.inr n) q3
  |_=>exact q3.elim
end
theorem KV.at{κ:Type}:∀{vs:List (κ×V)}{ws:List (κ×Value)}{i:Nat}{k:κ}{v:V},KV vs ws->vs[i]?=some (k,v)->∃u,ws[i]?=some (k,u)
 |[],_,_,_,_,_,e=>by simp at e
 |p::vs,ws,i,k,v,h,e=>by
  cases h with
  |cons r t=>
   cases i with
   |zero=>
    simp at e;subst e
    rename_i b l
    obtain⟨k',u⟩:=b;have z:k=k':=r.1;subst z;exact⟨u,rfl⟩
   |succ i=>
    obtain⟨u,hu⟩:=KV.at t (show vs[i]?=some (k,v) by simpa using e);exact⟨u,by simpa using hu⟩
section
variable {X:Cx}{pins:List (Addr×Obj)}{σ:St}{H:Hp}{s:Shared}{a:Addr}{o:Obj}
end
section
variable {X:Cx}{tg:Expr}
theorem RepK.at{K:PySem.W.Frag}{H:Hp}:∀{kvs:List (D×D)}{vs:List (Key×V)}{i:Nat}{d:D},RepK K H kvs vs->(kvs.map (·.1))[i]?=some d->∃k v,vs[i]?=some (k,v)/\d=kD k
 |_,_,i,d,.nil,e=>by simp at e
 |_,_,i,d,.cons (k:=k) (v:=v) r t,e=>by
  cases i with
  |zero=>simp at e;exact⟨k,v,rfl,e.symm⟩
  |succ i=>
   obtain⟨k',v',h1,h2⟩:=RepK.at t (i:=i) (by simpa using e);exact⟨k',v',by simpa using h1,h2⟩
theorem RepK.len{K:PySem.W.Frag}{H:Hp}:∀{kvs:List (D×D)}{vs:List (Key×V)},RepK K H kvs vs->kvs.length=vs.length
 |_,_,.nil=>rfl
 |_,_,.cons r t=>by rw[List.length_cons,List.length_cons,RepK.len t]
end
section
variable {K:PySem.W.Frag}{H₀ H:Hp}{σD:DSt}{σ:St}
def dP(ks:List (Key×D)):List (D×D):=ks.map λp=>(kD p.1,p.2)
theorem zrv{a b:Key}(h:kD a=kD b):a=b:=by
 cases a <;> cases b <;> simp[kD]at h <;> rw[h]
theorem RepK.kv:∀{ks:List (Key×D)}{vs:List (Key×V)},RepK K H (dP ks) vs->RepKV K H ks vs
 |[],vs,h=>by cases h;exact RepKV.nil'
 |(k,d)::ks,vs,h=>by
  generalize hg:dP ((k,d)::ks)=l at h
  cases h with
  |nil=>cases hg
  |cons r t=>
   simp only[dP,List.map_cons,List.cons.injEq,Prod.mk.injEq]at hg;obtain⟨⟨h1,rfl⟩,rfl⟩:=hg
   cases zrv h1;exact RepKV.cons r (RepK.kv t)
end
section
variable {X:Cx}
end
section
variable {X:Cx}{o:Expr}{td:TE}{p pos apos cpos:Pos}
end
section
variable {prog:Program}{w:World}{A:Around}{E:Value->Shared->Prop}
variable {κ:Type}[DecidableEq κ]{knd:KeyKind prog w κ}
end
section
variable {X:Cx}{e:Expr}{p pos:Pos}
end
def zlm:DOp
 |.str x,.int n,Q=>MulOk x n/\Q (.str (Txt.mul x n))
 |_,_,_=>False
section
variable {X:Cx}
theorem zln:OpD X (binaryOp .Mult) zlm:=⟨λpins s σ H x y v u a b Q I rx ry ra rb q=>by
 cases a with
 |str i=>cases b with
  |int j=>
   rcases ra with ra |⟨_,z,_⟩
   ·rcases rb with rb |⟨_,z,_⟩
    ·cases ra
     cases rb;obtain⟨t,rfl⟩:=rx;obtain⟨t',rfl⟩:=ry;exact SB.mul q.1 λt2 k=>⟨.str _,H,.str _,I.kept (t':=k) (λb o e=>e),⟨_,rfl⟩,Same.refl _,.str,q.2⟩
    ·cases z
   ·cases z
  |_=>exact q.elim
 |_=>exact q.elim⟩
def zhy(i:Nat)(te:DTE):DTS:=λDn σ=>match σ[i]? with
 |some (some (.val (.str a)))=>te σ λd=>match d with
  |.str b=>a.length+b.length<=sizeLine/\Dn.nx (σ.set i (some (.val (.str (a++b)))))
  |_=>False
 |_=>False
theorem zlo:PIp X .Add (λx y H Q=>∃a b,x=.str a/\y=.str b/\a.length+b.length<=sizeLine/\Q (.str (a++b)) H):=by
 intro pins s σ H x y v u Q I r1 r2 h;obtain⟨a,b,e1,e2,hz,q⟩:=h;subst e1;subst e2;obtain⟨t,rfl⟩:=r1;obtain⟨t',rfl⟩:=r2;exact PyProof.Rows.iadd_str (λt2 k=>⟨.str _,H,I.kept (t':=k) (λb o e=>e),⟨_,rfl⟩,q⟩) hz
theorem zn4{i:Nat}{x:Str}{e:Expr}{te:DTE}{pos pos':Pos}(hN:X.N.Nodup)(hi:X.N[i]?=some x)(hx:Loc X.env.scope x)(he:DE X e te)(hf:X.fn x=true\/X.env.scope.names.lookup x=some .local:=by first|exact .inl rfl|exact .inr rfl|assumption):
  DS X (.AugAssign (.Name x pos') .Add e pos) (zhy i te) :=
 DS.of (zjk hN hi hx he.pe zlo hf) λσ H H₀ σD Dn ok q=>by
  unfold zhy at q
  split at q
  ·next a e=>
   obtain⟨v,e1,r⟩:=ok.val e
   cases r;refine⟨_,e1,H₀,σD,_,ok,q,λw H1 d s1 r1 q1=>?_⟩
   cases d with
   |str b=>cases r1;exact⟨a,b,rfl,rfl,q1.1,_,(ok.after s1).setV .str i,s1.pers,q1.2⟩
   |_=>exact q1.elim
  ·exact q.elim
end
def txL(l:List Nat):Str:=⟨l.toArray⟩
theorem yn(l:List Nat):(txL l).length=l.length:=by simp[txL,Str.length]
theorem zhz{x:Str}{n:Int}(h0:0<=n)(h1:n<=16777216)(hx:x.length=1):MulOk x n:=by
 refine⟨?_,λh2 _=>?_,λh2 _=>?_⟩
 ·rw[decide_eq_false (by omega),decide_eq_false (by omega)];rfl
 ·rw[hx]
  have:(1:Int)<=(2 ^ 63-1) / n:=by
   rw[Int.le_ediv_iff_mul_le (by omega)];omega
  simpa using this
 ·rw[hx];unfold Builtin.Str.tooLong;simp only[sizeLine,gt_iff_lt,decide_eq_false_iff_not];omega
theorem ze8(c:Nat):∀(n:Nat) (acc:Array Nat),((List.replicate n #[c]).foldl (· ++ ·) acc).toList=acc.toList++List.replicate n c
 |0,acc=>by simp
 |n+1,acc=>by
  rw[List.replicate_succ,List.foldl_cons,ze8 c n,List.replicate_succ];simp
theorem zlp{c:Nat}{n:Int}(h0:0<=n):Txt.mul (txL [c]) n=txL (List.replicate n.toNat c):=by
 unfold Txt.mul
 by_cases h1:n<1
 ·rw[if_pos h1,show n.toNat=0 by omega];rfl
 ·rw[if_neg h1]
  by_cases h2:n=1
  ·subst h2;rfl
  ·rw[if_neg (by simp[h2,txL,Str.length])];unfold txL;congr 1;have:=ze8 c n.toNat #[];rw[<-Array.toList_inj];simpa using this
theorem vf(l m:List Nat):txL l++txL m=txL (l++m):=by
 show(⟨_⟩:Str)=_;unfold txL;simp
theorem zaf(c:Nat)(l:List Nat):Txt.count (txL l) (txL [c])=(l.count c:Int):=by
 rw[show txL [c]=⟨#[c]⟩ from rfl,count_cnt];show cnt c l=_
 induction l with
 |nil=>rfl
 |cons n r ih=>
  rw[cnt_cons,ih,List.count_cons]
  by_cases h:n=c
  ·simp[h];omega
  ·simp[h]
def zrw(x:Str):It:=⟨λi _=>i<x.cps.size,λi H v H'=>∃p c,H p=none/\x.cps[i]?=some c/\v=.ref p/\H'=upd H p (.tup [.int i,.str ⟨#[c]⟩]),λi _=>x.cps.size<=i⟩
theorem zgu{P:Program}{w:World}{K:PySem.W.Frag}{elts:List Expr}{x1}{tpos:Pos}{e it:Addr}(x:Str)(t:Tok)(hne:e≠it):
  zeh P w K (.Tuple elts x1 tpos) (zrw x) [e,it] e (λi h=>(∃old,IsEnum h e it i old)/\h.IsStrIter it "str_ascii_iterator" x t i) where
 mem:=by simp
 obj:=λi h st c hb=>by
  obtain⟨⟨old,he⟩,o,h1,h2,h3⟩:=st;simp only[List.mem_cons,List.not_mem_nil,or_false]at hb;rcases hb with rfl|rfl
  ·exact⟨_,he,λv q=>by cases (show Data.fields _=Data.cell v from q)⟩
  ·exact⟨o,h1,λv q=>by rw[h3]at q;cases q⟩
 keep:=λi h h' st k=>by
  obtain⟨⟨old,he⟩,o,h1,h2⟩:=st;exact⟨⟨old,k _ (by simp) _ he⟩,o,k it (by simp) o h1,h2⟩
 item:=by
  intro X hP hw hK hc i pins s σ H E I hf st hg;subst hP hw hK;obtain⟨⟨old,he⟩,h1⟩:=st;have hlt:i<x.cps.size:=hg;refine wpAny_pyNext_enum_itemD (Draws.strAscii (A:=X.A.in1) (I.ok.hd hc) it x t) he h1 hlt hne (by simp[hne]) λu' h' tk hu' he' h1' hp' hsz hk=>⟨_,rfl,?_⟩
  obtain⟨c,tu,hcx,rfl⟩:=hu';refine wpAny_letOwnedTupleGo_enum he' λh'' he'' hsb=>?_;have ne:s.heap.objs.size≠e:=λq=>by have:=Heap.lt_size he;rw[<-q]at this;exact Nat.lt_irrefl _ this
  have hp2:=(hsb.2 _ ne).trans hp';have nb:∀c o,s.heap.get? c=some o->c≠s.heap.objs.size:=λc o e=>Nat.ne_of_lt (Heap.lt_size e);have I1:Inv X pins σ (upd H s.heap.objs.size (.tup [.int i,.str ⟨#[c]⟩])) { s with heap:=h'',toks:=tk+1 }:=by
   refine I.turnedNew (ch:=[e,it]) hf (Nat.le_refl _) (λb u hb e=>?_) ⟨by simp[sizeLine_eq],[.int i tk,.str ⟨#[c]⟩ tu],.cons ⟨_,rfl⟩ (.cons ⟨_,rfl⟩ .nil),?_⟩
   ·simp only[List.mem_cons,List.not_mem_nil,or_false,not_or]at hb;exact(hsb.2 b hb.1).trans (hk b u hb.1 hb.2 e)
   ·exact⟨_,hp2,rfl,⟨_,rfl⟩,rfl⟩
  refine⟨.ref s.heap.objs.size,_,I1,rfl,⟨_,c,I.hok.fresh (Nat.le_refl _),hcx,rfl,rfl⟩,⟨⟨_,he''⟩,?_⟩,λb hb=>?_⟩
  ·obtain⟨o,h2,h3⟩:=h1';exact⟨o,(hsb.2 _ (Ne.symm hne)).trans h2,h3⟩
  ·rw[zj]
   ·exact(hf b hb).1
   ·intro q;subst q;simp only[List.mem_cons,List.not_mem_nil,or_false]at hb;obtain⟨o1,e1,_⟩:=h1;rcases hb with q|q
    ·exact nb _ _ he q.symm
    ·exact nb _ _ e1 q.symm
 done:=by
  intro X hP hw hK hc i pins s σ H E I hf st hg;subst hP hw hK;obtain⟨⟨old,he⟩,h1⟩:=st;have hle:x.cps.size<=i:=hg;have hT:s.TypeIs (.ref e) "enumerate" :=⟨_,he,rfl⟩
  unfold pyNext;refine wpAny_bind (wpAny_attempt (wpAny_callSpecial?_slot (name:=Str.ofString "__next__") hT F.slot_enumerate_next
   (wpAny_call_entry F.slot_enumerate_next hT F.entry_enumerate_next ?_ (F.args_enumerate_next_1 _))))
  show wpAny _ _ (field (.ref e) 2 >>= _) _ _ _;refine wpAny_bind (wpAny_field he rfl (x:=.ref it) rfl ?_);refine wpAny_bind (wpAny_nextOf_ascii_end (A:=X.A.in1) (I.ok.hd hc) h1 (by simp[hle]) λh' x he' hx'=>?_);obtain⟨o,ho,hcc⟩:=hx';refine wpAny_bind (wpAny_isInstance (T := "StopIteration") (b:=true) ⟨o,ho,hcc⟩ isSubtype_stop ?_);refine wpAny_pure ⟨rfl,?_⟩;refine I.turnedL (t':=s.toks) (ch:=[e,it]) hf λb u hb e=>?_;simp only[List.mem_cons,List.not_mem_nil,or_false,not_or]at hb;exact he' b u hb.2 e
 self:=λ_ _ _ _ _ st h=>by
  obtain⟨⟨old,he⟩,h1⟩:=st;exact wpAny_pyIter_enum he h
section
variable {X:Cx}{a:Expr}{te:DTE}{p pos:Pos}
theorem zlq{elts:List Expr}{x1}{tpos:Pos}{ta:TA}(hg:Gl X "enumerate")(hm:X.mg "enumerate" = none)(ha:PA X [a] ta)(hs:starEach [a] X.env = [(false,eval a X.env)]:=by rfl):
  PI X (.Tuple elts x1 tpos) (.Call (.Name "enumerate" p) [a] [] pos) (λσ H R=>ta σ H λvs H1=>∃y,vs = [.str y]/\y.cps.all (· < 128)=true/\R (zrw y) H1):=by
 intro pins s σ H R I h;refine Call_ (jz I hg hm boot_enumerate (PyProof.Rows.callWith_type1 (thn (ha pos pins s σ H _ I h) λus s1 ⟨vs,H1,I1,r1,q1⟩=>?_) hs rfl));obtain⟨y,e,hy,q⟩:=q1;subst e;obtain⟨v1,rfl,r1'⟩:=r1.one;obtain⟨t,rfl⟩:=r1';refine call_enumerate_str λh' he hi hsz hk=>wpAny_pyIter_enum he ?_;have ei:strIterType y = "str_ascii_iterator" := by unfold strIterType;rw[hy];rfl
 rw[ei]at hi;have I2:Inv X pins σ H1 { s1 with heap:=h' }:=I1.kept (t':=s1.toks) hk;refine⟨_,[s1.heap.objs.size+1,s1.heap.objs.size],_,_,H1,rfl,I2,zgu y t (Nat.ne_of_gt (Nat.lt_succ_self _)),⟨⟨_,he⟩,hi⟩,λb hb=>?_,q⟩;have hb':s1.heap.objs.size<=b:=by
  simp only[List.mem_cons,List.not_mem_nil,or_false]at hb;rcases hb with rfl|rfl <;> omega
 exact I1.fpOk hb' (I1.hok.fresh hb')
theorem zn5{K:PySem.W.Frag}{Kp:Hp->Hp->Prop}{H1:Hp}(x:Str):ItOk K Kp (zrw x) H1 (q9 0 (xl x)) where
 go:=λH i d k e=>by
  obtain⟨y,e1,rfl⟩:=zc0 e;unfold xl at e1;rw[List.getElem?_map,Array.getElem?_toList]at e1;obtain⟨c,hc,rfl⟩:=Option.map_eq_some_iff.mp e1;have hi:i<x.cps.size:=by
   by_cases z:i<x.cps.size
   ·exact z
   ·simp[z]at hc
  refine⟨hi,λv H' yl=>?_⟩;obtain⟨p,c2,hp,h2,rfl,rfl⟩:=yl;rw[hc]at h2
  cases h2;refine⟨zw hp _,.tup (SqT.of zl) (.cons ?_ (.cons .str .nil))⟩;rw[Nat.zero_add];exact .int
 stop:=λH k=>by
  show x.cps.size<=_;rw[zc1];simp[xl]
def zgv(t:DTF):DTF:=λσ Q=>t σ λds=>match ds with
 |[.str y]=>y.cps.all (· < 128)=true/\Q (q9 0 (xl y))
 |_=>False
theorem zlr{elts:List Expr}{x1}{tpos:Pos}{t:DTF}(hg:Gl X "enumerate")(hm:X.mg "enumerate" = none)(ha:DA X [a] t)(hs:starEach [a] X.env = [(false,eval a X.env)]:=by rfl):
  DI X (.Tuple elts x1 tpos) (.Call (.Name "enumerate" p) [a] [] pos) (zgv t) :=
 ⟨λpins s σ H R I ⟨H₀,σD,QD,ok,q,k⟩=>zlq hg hm ha.pa hs pins s σ H R I ⟨H₀,σD,_,ok,q,λvs H1 ds s1 r1 q1=>by
  split at q1
  ·next y=>
   cases r1 with
   |cons r t=>
    cases t
    cases r;exact⟨y,rfl,q1.1,k _ _ _ s1 (zn5 y) q1.2⟩
  ·exact q1.elim⟩⟩
end
structure zcc(K:PySem.W.Frag)(mg:Str->Option Value)(c:Str)(C:Addr)(fs:List Str):Prop where
 m:mg c=some (.ref C)
 n:PySem.W.nsIn K mainGlobals c=some (some (.ref C))
 c:Cls K C
 f:∀f∈fs,NoAttr K C f
def zgw(P:Program)(w:World)(K:PySem.W.Frag)(mg:Str->Option Value)(base:Heap)(k:Nat)(C:Addr)(m:Str)(ps:List Str)(sp:wu):Prop :=
 ∃g fd,zms K C m g/\FnOk P w K mg base CX0 k g fd ps (kc K sp)/\Binds K fd ps []
def MkC(P:Program)(w:World)(K:PySem.W.Frag)(mg:Str->Option Value)(base:Heap)(k:Nat)(C:Addr)(ps:List Str)(sp:wu):Prop :=
 ∃g fd,Mk K C g/\FnOk P w K mg base CX0 k g fd ps (kc K sp)/\Binds K fd ps []
section
variable {X:Cx}{e e2:Expr}{es:List Expr}{te:DTE}{t:DTP}{pos:Pos}{c f m x:Str}{C g:Addr}{i j k k':Nat}{ps fs:List Str}{sp:wu}{tg:zad}
def zgx(i:Nat)(sp:wu)(t:zad)(te:DTE):DTS:=λDn σ=>kx i sp t (λd σ'=>te σ' λe=>Dn.rt (.val (.tuple [d,e]))) σ
theorem zls{x1}{p2:Pos}(P:PE X e (zae X.K i sp tg))(h2:DE X e2 te)(hs1:starEach [e,e2] X.env=(false,eval e X.env)::starEach [e2] X.env:=by rfl)(hs2:starEach [e2] X.env=(false,eval e2 X.env)::starEach [] X.env:=by rfl):
  DS X (.Return (some (.Tuple [e,e2] x1 p2)) pos) (zgx i sp tg te) :=
 DS.of (j0 (zf7 (yu P (yu h2.pe xy hs2) hs1))) λσ H H₀ σD Dn ok q=>ky ok q λv H' d σD' ok' pr rp qd=>⟨H₀,σD',_,ok',qd,λv2 H2 d2 s2 r2 q2=>by
  refine⟨by simp[sizeLine_eq],λp hp=>?_⟩;have sn:=zw hp (.tup [v,v2]);exact⟨.val (.tuple [d,d2]),(ok'.same.trans s2).trans sn,.tup (SqT.of zl) (.cons ((rp.same s2).same sn) (.cons (r2.same sn) .nil)),q2⟩⟩
theorem vg(i:Nat){p1:Pos}(I:zcc X.K X.mg c C fs)(hm:f∈fs)(hN:X.N[i]?=some x:=by rfl)(hv:Vis X.env.scope x:=by first|exact Or.inl rfl|exact Or.inr (Or.inl rfl)|exact Or.inr (Or.inr rfl))(hd:(x ==("__debug__" : Str))=false:=by decide)
  (hcd:(x ==("__classdict__" : Str))=false:=by decide) (hb:attributeBase (.Name x p1) f X.env (eval (.Name x p1) X.env)=eval (.Name x p1) X.env:=by rfl):DE X (.Attribute (.Name x p1) f pos) (ze7 i c f):=znx i I.n I.c (I.f f hm) hN hv hd hcd hb
theorem za5(i:Nat){p1 pos':Pos}(I:zcc X.K X.mg c C fs)(hm:f∈fs)(he:DE X e te)(hN:X.N[i]?=some x:=by rfl)(hv:Vis X.env.scope x:=by first|exact Or.inl rfl|exact Or.inr (Or.inl rfl)|exact Or.inr (Or.inr rfl))(hd:(x ==("__debug__" : Str))=false:=by decide)
  (hcd:(x ==("__classdict__" : Str))=false:=by decide) (hs:swapsWith e (some (.Attribute (.Name x p1) f pos')) pos.line X.env=pure false:=by rfl):DS X (.Assign [.Attribute (.Name x p1) f pos'] e pos) (zhw i c f te):=zny i I.n I.c (I.f f hm) he hN hv hd hcd hs
theorem zlt{y:Str}{pos' p cpos:Pos}(hN:X.N.Nodup)(hi:X.N[j]?=some y)(hx:Loc X.env.scope y)(I:zcc X.K X.mg c C fs)(M:MkC X.prog X.w X.K X.mg X.base k C ps sp)(hr:Room k' X.A)(hg:Gl X c)(ha:DPs X (e::es) t)(hk:k+1<=k':=by decide)(hdb:(c ==("__debug__" : Str))=false:=by decide)
  (he:starEach (e::es) X.env=(false,eval e X.env)::starEach es X.env:=by rfl) (hpl:(backTo cpos (starEach es X.env)).any (·.1)=false:=by rfl)
  (hs:swapsWith (.Call (.Name c p) (e::es) [] cpos) (some (.Name y pos')) pos.line X.env=pure false:=by rfl) (hf:X.fn y=true\/X.env.scope.names.lookup y=some .local:=by first|exact .inl rfl|exact .inr rfl|assumption) :
  DS X (.Assign [.Name y pos'] (.Call (.Name c p) (e::es) [] cpos) pos) (zhx j c sp t):=by
 obtain⟨g,fd,mk,F,b⟩:=M;exact znz hN hi hx mk F hr hg I.m I.n b ha hk hdb he hpl hs hf
theorem zag{pl:Sem Bool}{p1 apos:Pos}(I:zcc X.K X.mg c C fs)(M:zgw X.prog X.w X.K X.mg X.base k C m ps sp)(hr:Room k' X.A)(hk:k<=k':=by decide)
  (hN:X.N[i]?=some x:=by rfl) (hv:Vis X.env.scope x:=by first|exact Or.inl rfl|exact Or.inr (Or.inl rfl)|exact Or.inr (Or.inr rfl)) (hd:(x ==("__debug__" : Str))=false:=by decide) (hcd:(x ==("__classdict__" : Str))=false:=by decide)
  (ht:eval (.Call (.Attribute (.Name x p1) m apos) [] [] pos) X.env=(do
   let ov <-eval (.Name x p1) X.env
   standAt apos.atName
   let (f,first) <-holding [ov] (getMethod ov m pl)
   callWith pos f first (backTo pos (starEach [] X.env)) (backToKw pos (keywordEach [] X.env))):=by rfl) :
  PE X (.Call (.Attribute (.Name x p1) m apos) [] [] pos) (zae X.K i sp (jq i c m zes)):=by
 obtain⟨g,fd,mt,F,b⟩:=M;exact zi6 I.n I.c mt F hr b hk hN hv hd hcd ht
end
section
variable {X:Cx}
end
section
variable {X:Cx}{tg:Expr}{a b c:Expr}{p p2 pos pos2:Pos}{t:DTF}
section
variable {prog:Program}{w:World}{A:Around}{E:Value->Shared->Prop}{s:Shared}
end
end
section
open PySem.Builtin PySem.Builtin.Str
end
section
variable {X:Cx}{e:Expr}{es:List Expr}{pos:Pos}
structure DEk(X:Cx)(e:Expr)(t:DTE):Prop where
 run:∀(pins:List (Addr×Obj)) (s:Shared) (σ:St) (H H₀:Hp) (σD:DSt) (Q:D->Prop),1<=s.toks->Inv X pins σ H s->DOk X.K H₀ H σD σ->t σD Q->wpAny (model X.prog X.w) X.A (eval e X.env) (DEnd X pins σ H Q) X.xe s
structure DVk(X:Cx)(e:Expr)(t:DTE):Prop where
 run:∀(pins:List (Addr×Obj)) (s:Shared) (σ:St) (H H₀:Hp) (σD:DSt) (Q:D->Prop),1<=s.toks->Inv X pins σ H s->DOk X.K H₀ H σD σ->t σD Q->wpAny (model X.prog X.w) X.A (eval e X.env) (zoz X pins σ H Q) X.xe s
structure DFk(X:Cx)(e:Expr)(t:DTF):Prop where
 run:∀(pins:List (Addr×Obj)) (s:Shared) (σ:St) (H H₀:Hp) (σD:DSt) (Q:List D->Prop),1<=s.toks->Inv X pins σ H s->DOk X.K H₀ H σD σ->t σD Q->wpAny (model X.prog X.w) X.A (eval e X.env) (zhj X pins σ H Q) X.xe s
structure DAk(X:Cx)(es:List Expr)(t:DTF):Prop where
 run:∀(pos:Pos) (pins:List (Addr×Obj)) (s:Shared) (σ:St) (H H₀:Hp) (σD:DSt) (Q:List D->Prop),1<=s.toks->Inv X pins σ H s->DOk X.K H₀ H σD σ->t σD Q ->
  wpAny (model X.prog X.w) X.A (spliced (backTo pos (starEach es X.env))) (λus s'=>∃vs H' ds,Inv X pins σ H' s'/\Vals vs us/\Same H H'/\Reps X.K H' ds vs/\Q ds) X.xe s
structure DSk(X:Cx)(st:Stmt)(t:DTS):Prop where
 run:∀(pins:List (Addr×Obj)) (s:Shared) (σ:St) (H H₀:Hp) (σD:DSt) (Dn:xu),1<=s.toks->Inv X pins σ H s->DOk X.K H₀ H σD σ->t Dn σD->wpAny (model X.prog X.w) X.A (exec st X.env) (DSP X pins H₀ H Dn) X.xe s
structure zu1(X:Cx)(st:List Stmt)(t:DTS):Prop where
 run:∀(pins:List (Addr×Obj)) (s:Shared) (σ:St) (H H₀:Hp) (σD:DSt) (Dn:xu),1<=s.toks->Inv X pins σ H s->DOk X.K H₀ H σD σ->t Dn σD->wpAny (model X.prog X.w) X.A (execs st X.env) (DSP X pins H₀ H Dn) X.xe s
theorem DS.k{st:Stmt}{t:DTS}(h:DS X st t):DSk X st t:=⟨λpins s σ H H₀ σD Dn _ I ok q=>h.run pins s σ H H₀ σD Dn I ok q⟩
theorem DSs.k{st:List Stmt}{t:DTS}(h:DSs X st t):zu1 X st t:=⟨λpins s σ H H₀ σD Dn _ I ok q=>h.run pins s σ H H₀ σD Dn I ok q⟩
end
section
variable {X:Cx}{pins:List (Addr×Obj)}{σ:St}{H:Hp}{s:Shared}{P c:Addr}{q:Str}
end
section
variable {X:Cx}{pins:List (Addr×Obj)}{σ:St}{H:Hp}{a it S f:Addr}{xs:List V}{kf:Nat->Int}{kwd:List (Str×Value)}{R:Value->Shared->Prop}
structure zva(X:Cx)(pins:List (Addr×Obj))(σ:St)(H:Hp)(a it S:Addr)(xs:List V)(kf:Nat->Int)(j i:Nat)(H1:Hp)(s:Shared):Prop where
 I:Inv X pins σ H1 s
 sm:Same H H1
 st:s.heap.IsListIter it a j
 f1:FpOk X pins H1 it
 f2:FpOk X pins H1 S
 ne:it≠S
 best:∃vb tb c x,s.heap.get? S=some (seqObj "list" #[vb,.int (kf i) tb] c)/\xs[i]?=some x/\RelV x vb
 lt:i<j
 mx:∀j',j' < j->kf i<=kf j'/\(j' < i->kf i<kf j')
end
section
variable {X:Cx}{pins:List (Addr×Obj)}{σ:St}{H:Hp}{a f:Addr}{xs:List V}{kf:Nat->Int}{R:Value->Shared->Prop}{s:Shared}
end
structure ztx(y n:Str)(sc:Scope):Prop where
 kind:sc.kind=.function
 co:sc.isCoroutine=false
 gen:sc.isGenerator=false
 ne:y≠n
 loc:sc.names.lookup y=some .local
 fre:sc.names.lookup n=some .free
 only:∀x∈sc.names,x.2 ≠ .cell/\(x.2=.free->x.1=n)
section
variable {X:Cx}{a body:Expr}{ta:DTF}{tb:DTE}{p pos kp kp2 lp cp:Pos}{k:Nat}{P c:Addr}{q y n:Str}{params:Arguments}{scope:Scope}
end
end L2
namespace SQ
open PySem PyProof.Rows
set_option autoImplicit false
abbrev ipK(p:Int×Str):List Int:=p.1::p.2.cps.toList.map λn:Nat=>(n:Int)
def RefP(h:Heap)(v:Value)(p:Int×Str):Prop:=∃a t u,v=.ref a/\IsTup h a #[.int p.1 t,.str p.2 u]
theorem RefP.keep{h h':Heap}{v:Value}{p:Int×Str}(k:∀b o,h.get? b=some o->h'.get? b=some o)(x:RefP h v p):RefP h' v p:=by
 obtain⟨a,t,u,e,i⟩:=x;exact⟨a,t,u,e,i.keeps k⟩
noncomputable def zn6 (h:Heap) (v:Value):Option (List Int):=@dite _ (∃p,RefP h v p) (Classical.propDecidable _) (λx=>some (ipK x.choose)) (λ_=>none)
@[reducible] noncomputable def zu4 (h:Heap):KeyKind where
 α:=List Int
 blt a b:=decide (a<b)
 irrefl a:=by simpa using List.lt_irrefl a
 trans a b c h1 h2:=by simp only[decide_eq_true_eq]at *;exact List.lt_trans h1 h2
 negTrans a b c h:=by
  simp only[decide_eq_true_eq]at *
  by_cases c:a<b
  ·exact .inl c
  ·exact .inr (List.lt_of_le_of_lt (List.not_lt.mp c) h)
 total a b h1 h2:=by simp only[decide_eq_false_iff_not]at *;exact List.le_antisymm (List.not_lt.mp h2) (List.not_lt.mp h1)
 keyOf v:=zn6 h v
 dflt:=[]
section
variable {prog:Program}{w:World}{A:Around}{E:Value->Shared->Prop}{s:Shared}
end
end SQ
namespace L2
open PySem PySem.Spec PyProof.Rows SQ
section
variable {X:Cx}
end
end L2
namespace L2
open PySem PySem.Spec PyProof.Rows
section
variable {X:Cx}{o:Expr}{td:TE}{p pos:Pos}
end
section
variable {X:Cx}
end
section
variable {X:Cx}
end
section
variable {P:Program}{w:World}{K:PySem.W.Frag}{mg:Str->Option Value}{base:Heap}{N:List Str}{qual:Str}{scope:Scope}{f:Addr}{cd:Value}{A:Around}{outer:List Env}{s:Shared}{H:Hp}{E:XK}
end
end L2
namespace L2
open PySem PySem.Spec PyProof.Rows SQ
section
variable {X:Cx}{a:Expr}{p pos p2 pos2:Pos}
end
end L2
namespace L2
open PySem PySem.Spec PyProof.Rows
section
variable {X:Cx}{e:Expr}{i:Nat}{te:DTE}{sp:wu}{t:zad}{pos:Pos}
end
theorem Reps.of_keys{K:PySem.W.Frag}{H:Hp}{ks:List Key}{vs:List V}(h:Reps K H (ks.map kD) vs):vs=ks.map kV:=by
 induction ks generalizing vs with
 |nil=>cases h;rfl
 |cons k ks ih=>
  cases h with
  |cons r t=>
   rw[List.map_cons,<-ih t]
   cases k with
   |inl n=>cases r;rfl
   |inr n=>cases r;rfl
section
variable {X:Cx}{e f:Expr}{es:List Expr}{te tf:DTE}{tl ta:DTF}{pos pos' p1 p2:Pos}
def zdw(j:Nat)(ta:DTF):DTS:=λDn σ=>ta σ λds=>ds.length<=100/\∃ks:List Key,ds=ks.map kD/\Dn.nx (σ.set j (some (.own (.tk ks))))
theorem zc7{j:Nat}{y:Str}{x1}{cpos:Pos}(hN:X.N.Nodup)(hj:X.N[j]?=some y)(hx:Loc X.env.scope y)(ha:DA X es ta)
  (hs:swapsWith (.Tuple es x1 cpos) (some (.Name y pos')) pos.line X.env=pure false:=by rfl) (hf:X.fn y=true\/X.env.scope.names.lookup y=some .local:=by first|exact .inl rfl|exact .inr rfl|assumption) :
  DS X (.Assign [.Name y pos'] (.Tuple es x1 cpos) pos) (zdw j ta) :=
 DS.of (vz hN hj hx (zf7 ha.pa) hs hf) λσ H H₀ σD Dn ok q=>⟨H₀,σD,_,ok,q,λvs H1 ds s1 r1 q1=>by
  obtain⟨hl,ks,rfl,qn⟩:=q1;have e1:=Reps.of_keys r1;subst e1;refine⟨by rw[List.length_map]at hl ⊢;rw[sizeLine_eq];omega,λl hl=>⟨_,DOk.setF ok (s1.trans (zw hl _)) (o:=.tk ks) (f:=[]) (λ_ z=>nomatch z) List.nodup_nil ⟨l,rfl,rfl,zl⟩ j,(s1.trans (zw hl _)).pers,qn⟩⟩⟩
theorem DOk.tk{K:PySem.W.Frag}{H H₀:Hp}{σD:DSt}{σ:St}{j:Nat}{ks:List Key}(ok:DOk K H₀ H σD σ)(e:σD[j]?=some (some (.own (.tk ks)))):∃b,σ[j]?=some (some (.ref b))/\H b=some (.tup (ks.map kV)):=by
 obtain⟨v,f,ev,rO,_⟩:=ok.focus e;obtain⟨b,rfl,rfl,h⟩:=rO;exact⟨b,ev,h⟩
theorem DOk.dcT{K:PySem.W.Frag}{H H₀:Hp}{σD:DSt}{σ:St}{i:Nat}{xs:List (List Key×D)}(ok:DOk K H₀ H σD σ)(e:σD[i]?=some (some (.own (.dcT xs)))):
  ∃a vs,σ[i]?=some (some (.ref a))/\H a=some (.dT vs)/\RepKV K H xs vs/\∀ys ws,RepKV K H ys ws->DOk K H₀ (upd H a (.dT ws)) (clr (σD.set i (some (.own (.dcT ys))))) σ/\Pers H (upd H a (.dT ws)):=by
 obtain⟨v,f,ev,rO,nf,fr,put⟩:=ok.focus e;obtain⟨a,vs,rfl,rfl,ea,r⟩:=rO;refine⟨a,vs,ev,ea,r,λys ws r2=>put (upd H a (.dT ws)) (.dcT ys) [a] (λb u hb hu=>by rw[zj (λz=>hb (by rw[z];exact List.mem_cons_self))];exact hu) nf (λb hb=>.inl hb) ⟨a,ws,rfl,rfl,zl,r2.1,r2.2.mono (y9 ea rfl)⟩⟩
theorem zlu:∀{ks:List (List Key×D)}{vs:List (List Key×V)} (k:List Key),ks.map (·.1)=vs.map (·.1)->(ve vs k).isSome=(xp ks k).isSome:=by
 intro ks
 induction ks with
 |nil=>
  intro vs k h
  cases vs with
  |nil=>rfl
  |cons q vs=>cases h
 |cons p ks ih=>
  intro vs k h
  cases vs with
  |nil=>cases h
  |cons q vs=>
   rw[List.map_cons,List.map_cons,List.cons.injEq]at h;have ih:=ih k h.2;unfold ve xp at ih ⊢;rw[List.find?_cons,List.find?_cons,h.1]
   by_cases c:q.1=k
   ·rw[decide_eq_true c];rfl
   ·rw[decide_eq_false c];exact ih
def zn7(i j:Nat)(f:Bool->Bool):DTE:=λσ Q=>match σ[i]?,σ[j]? with
 |some (some (.own (.dcT xs))),some (some (.own (.tk k)))=>Q (.bool (f (xp xs k).isSome))
 |_,_=>False
theorem zi9(i j:Nat){x y:Str}{m:Nat}(hr:Room m X.A)(hN:X.N[i]?=some x:=by rfl)(hM:X.N[j]?=some y:=by rfl)(hvis:Vis X.env.scope x:=by first|exact Or.inl rfl|exact Or.inr (Or.inl rfl)|exact Or.inr (Or.inr rfl))(hvy:Vis X.env.scope y:=by first|exact Or.inl rfl|exact Or.inr (Or.inl rfl)|exact Or.inr (Or.inr rfl))(hd:(x ==("__debug__" : Str))=false:=by decide)(hcd:(x ==("__classdict__" : Str))=false:=by decide)
  (hdy:(y ==("__debug__" : Str))=false:=by decide) (hcy:(y ==("__classdict__" : Str))=false:=by decide) (h1:behindInMarks .NotIn (.Name x p1)=false:=by rfl):DT X (.Compare (.Name y p2) [.NotIn] [.Name x p1] pos) (dTB (zn7 i j (λb=>!b))) :=
 DT.of (zjh (zi3 (by have:=hr.un;omega) (yp (i:=j) hM hvy hdy hcy) (yp (i:=i) hN hvis hd hcd)) h1) λσ H H₀ σD QD ok q=>by
  unfold dTB zn7 at q
  split at q
  ·next xs k e1 e2=>
   obtain⟨a,vs,ea,ha,r,_⟩:=ok.dcT e1;obtain⟨b,eb,hb⟩:=ok.tk e2;refine⟨.ref b,eb,.ref a,ea,a,ve vs k,rfl,DGet.t ha hb,_,rfl,Same.refl _,?_⟩;rw[zlu k r.1];exact q
  ·exact q.elim
def zlv(i j:Nat)(tv:DTE):DTS:=λDn σ=>tv σ λd=>match σ[i]?,σ[j]? with
 |some (some (.own (.dcT xs))),some (some (.own (.tk k)))=>xs.length<sizeLine/\Dn.nx (clr (σ.set i (some (.own (.dcT (zau xs k d))))))
 |_,_=>False
theorem zn8(i j:Nat){x y:Str}{m:Nat}{spos:Pos}(hr:Room m X.A)(hv:DE X e te)(hN:X.N[i]?=some x:=by rfl)(hM:X.N[j]?=some y:=by rfl)(hvis:Vis X.env.scope x:=by first|exact Or.inl rfl|exact Or.inr (Or.inl rfl)|exact Or.inr (Or.inr rfl))(hvy:Vis X.env.scope y:=by first|exact Or.inl rfl|exact Or.inr (Or.inl rfl)|exact Or.inr (Or.inr rfl))(hd:(x ==("__debug__" : Str))=false:=by decide)(hcd:(x ==("__classdict__" : Str))=false:=by decide)
  (hdy:(y ==("__debug__" : Str))=false:=by decide) (hcy:(y ==("__classdict__" : Str))=false:=by decide)
  (hs:swapsWith e (some (.Subscript (.Name x p1) (.Name y p2) pos')) spos.line X.env=pure false:=by rfl) :
  DS X (.Assign [.Subscript (.Name x p1) (.Name y p2) pos'] e spos) (zlv i j te) :=
 DS.of (zhq (by have:=hr.un;omega) (yp (i:=i) hN hvis hd hcd) (yp (i:=j) hM hvy hdy hcy) hv.pe hs) λσ H H₀ σD Dn ok q=>⟨H₀,σD,_,ok,q,λv H1 d s1 r1 q1=>by
  split at q1
  ·next xs k e1 e2=>
   obtain⟨a,vs,ea,ha,r,put⟩:=(ok.after s1).dcT e1;obtain⟨b,eb,hb⟩:=(ok.after s1).tk e2;obtain⟨ok2,pr⟩:=put (zau xs k d) (wt vs k v) (r.put r1);exact⟨.ref a,ea,.ref b,eb,a,_,rfl,DPut.t ha hb (by rw[<-r.len];exact q1.1),_,ok2,s1.pers.trans pr,q1.2⟩
  ·exact q1.elim⟩
end
end L2
namespace PySem
open Sem (wp)
def VAt(h:Heap)(a:Addr)(us:List Value)(ep:Nat):Prop:=∃o es,h.get? a=some o/\o.ExactDict/\o.data=.dict es ep/\es.toList.map (·.val)=us
theorem VAt.at{h h':Heap}{a us ep}(x:VAt h a us ep)(e:∀o,h.get? a=some o->h'.get? a=some o):VAt h' a us ep:=let ⟨o,es,ho,r⟩:=x;⟨o,es,e _ ho,r⟩
theorem VAt.typeIs{s:Shared}{a us ep}(x:VAt s.heap a us ep):s.TypeIs (.ref a) "dict" := let ⟨o,_,ho,hc,_⟩:=x;⟨o,ho,hc.1⟩
section
variable {prog:Program}{w:World}{A:Around}{E:Value->Shared->Prop}{s:Shared}
end
namespace W
section
variable {prog:Program}{w:World}{d r:Addr}{kvs:List Value}{ep:Nat}
end
end W
end PySem
namespace L2
open PySem PySem.Spec PyProof.Rows
section
variable {X:Cx}{o:Expr}{td:TE}{p pos apos cpos:Pos}
end
end L2
namespace L2
open PySem PySem.Spec PyProof.Rows SQ
section
variable {X:Cx}{pins:List (Addr×Obj)}{σ:St}{H:Hp}{s:Shared}
end
section
variable {X:Cx}{a body:Expr}{ta:DTF}{tb:DTE}{p pos p2 pos2 kp lp:Pos}{k:Nat}{P c:Addr}{q y n:Str}{params:Arguments}{scope:Scope}
end
end L2
namespace PySem
namespace SeqAt
open AutoSeq1 (wpAny_loadPart')
end SeqAt
end PySem
namespace L2
open PySem PySem.Spec PyProof.Rows
section
variable {X:Cx}
variable {o e:Expr}{to te:DTE}{apos cpos:Pos}
end
end L2
namespace SQ
open PySem PyProof.Rows
open AutoSeq1 (wpAny_loadPart')
end SQ
namespace L2
open PySem PySem.Spec PyProof.Rows SQ
section
variable {X:Cx}{pins:List (Addr×Obj)}{σ:St}{H:Hp}{a it S:Addr}{xs:List V}{ls:List (Int×List Int)}{R:Value->Shared->Prop}
structure zvb(X:Cx)(pins:List (Addr×Obj))(σ:St)(H:Hp)(a it S:Addr)(xs:List V)(ls:List (Int×List Int))(j i:Nat)(s:Shared):Prop where
 I:Inv X pins σ H s
 st:s.heap.IsListIter it a j
 f1:FpOk X pins H it
 f2:FpOk X pins H S
 ne:it≠S
 best:∃vb c x,s.heap.get? S=some (seqObj "list" #[vb,vb] c)/\xs[i]?=some x/\RelV x vb
 lt:i<j
 mx:∀(j':Nat) l l',j' < j->ls[i]?=some l->ls[j']?=some l'->¬ kL l' < kL l
end
end L2
namespace L2
open PySem PySem.Spec PyProof.Rows
theorem Reps.keys{K:PySem.W.Frag}{H:Hp}:∀ks:List Key,Reps K H (ks.map kD) (ks.map kV)
 |[]=>.nil
 |.inl _::ks=>.cons .int (Reps.keys ks)
 |.inr _::ks=>.cons .str (Reps.keys ks)
theorem zrx{X:Cx}{pins:List (Addr×Obj)}{σ:St}{H:Hp}{s:Shared}{b:Addr}{ks:List Key}(I:Inv X pins σ H s)(e:SqT X.K H b (ks.map kV)):(tupleKind (ym X.prog X.w)).is s.heap ks b:=by
 obtain⟨its,r,⟨o,h1,h2,⟨n,h3⟩,_⟩,_⟩:=I.tupleD e;exact⟨o,its.toArray,n,h1,h2,h3,by simpa using zaa r⟩
section
variable {X:Cx}{o i e f k v:Expr}{te tf:DTE}{tk tv td ty:TE}{pos pos' p1 p2:Pos}
def zry(K:PySem.W.Frag)(td ty:TE):TE:=λσ H Q=>td σ H λx H1=>ty σ H1 λy H2=>∃a b v kvs k,x=.ref a/\H2 a=some (.dT kvs)/\y=.ref b/\SqT K H2 b (List.map kV k)/\ve kvs k=some v/\Q v H2
theorem zlw(hu:X.A.units+1<cLine)(ho:PE X o td)(hi:PE X i ty)(hs:zk7 i):PE X (.Subscript o i pos) (zry X.K td ty):=by
 intro pins s σ H Q I h;refine zhp PySem.F.slot_dict_getitem.lookup hs (thn (ho pins s σ H _ I h) λu s1 ⟨x,H1,I1,rx,q1⟩=>thn (hi pins s1 σ H1 _ I1 q1) λiv s2 ⟨y,H2,I2,ry,a,b,v,kvs,k,ex,e,ey,eb,l,q2⟩=>?_);subst ex ey;obtain rfl:u=Value.ref a:=rx;obtain rfl:iv=Value.ref b:=ry;obtain⟨z,hd,xs,rel,dd⟩:=zk5 I2.hok e;refine⟨dd.typeIs,?_⟩;obtain⟨w',hw,rw'⟩:=RelO.some_of (v:=v) (o:=(atKey xs k).map (·.2)) (by rw[<-l];exact rel.val k);obtain⟨p,hp,hp2⟩:=Option.map_eq_some_iff.mp hw;refine wpAny_getItem_heap (tupleKind_room_in1 hu) (zrx I2 eb) dd hp ?_;rw[hp2];exact⟨v,H2,I2.tok _,rw',q2⟩
def dTk(i:Nat):DTE:=λσ Q=>match σ[i]? with
 |some (some (.own (.tk ks)))=>Q (.tuple (ks.map kD))
 |_=>False
theorem zpb(i:Nat){x:Str}(hN:X.N[i]?=some x:=by rfl)(hvis:Vis X.env.scope x:=by first|exact Or.inl rfl|exact Or.inr (Or.inl rfl)|exact Or.inr (Or.inr rfl))(hd:(x ==("__debug__" : Str))=false:=by decide)(hcd:(x ==("__classdict__" : Str))=false:=by decide):
  DE X (.Name x pos) (dTk i) :=
 DE.of (yp (i:=i) hN hvis hd hcd) λσ H H₀ σD QD ok q=>by
  unfold dTk at q
  split at q
  ·next ks e=>
   obtain⟨b,eb,hb⟩:=ok.tk e;exact⟨.ref b,eb,_,Same.refl _,.tup (SqT.of hb) (Reps.keys ks),q⟩
  ·exact q.elim
def zdx(i:Nat)(te:DTE):DTE:=λσ Q=>match σ[i]? with
 |some (some (.own (.dcT xs)))=>te σ λy=>∃ks d,y=.tuple (List.map kD ks)/\xp xs ks=some d/\Q d
 |_=>False
theorem zlx(i:Nat){x:Str}{m:Nat}(hr:Room m X.A)(he:DE X e te)(hN:X.N[i]?=some x:=by rfl)(hvis:Vis X.env.scope x:=by first|exact Or.inl rfl|exact Or.inr (Or.inl rfl)|exact Or.inr (Or.inr rfl))(hd:(x ==("__debug__" : Str))=false:=by decide)(hcd:(x ==("__classdict__" : Str))=false:=by decide)
  (hs:zk7 e:=by exact λ_ _=>rfl):DE X (.Subscript (.Name x p1) e pos) (zdx i te) :=
 DE.of (zlw (by have:=hr.un;omega) (yp (i:=i) hN hvis hd hcd) he.pe hs) λσ H H₀ σD QD ok q=>by
  unfold zdx at q
  split at q
  ·next xs e1=>
   obtain⟨a,vs,ea,ha,r,_⟩:=ok.dcT e1;refine⟨.ref a,ea,H₀,σD,_,ok,q,λy H1 d s1 r1 q1=>?_⟩;obtain⟨ks,d',rfl,hg,qd⟩:=q1;obtain⟨a',vs',ea',ha',r',_⟩:=(ok.after s1).dcT e1;have eq:a'=a:=by rw[ea]at ea';cases ea';rfl
   subst eq;obtain⟨v,hv,rv⟩:=r'.get hg
   cases r1 with
   |tup h rr=>
    have e2:=Reps.of_keys rr;subst e2;exact⟨a',_,v,vs',ks,rfl,ha',rfl,h,hv,d',s1,rv,qd⟩
  ·exact q.elim
def zn9(tk tv:TE):TE:=λσ H Q=>∀p,H p=none->zds [(tk,tv)] σ (upd H p (.dT [])) λps H2=>H2 p=some (.dT [])/\∃b k y,ps = [(.ref b,y)]/\H2 b=some (.tup (List.map kV k))/\Q (.ref p) (upd H2 p (.dT [(k,y)]))
theorem zja(hu:X.A.units+1<cLine)(hk:PE X k tk)(hv:PE X v tv):PE X (.Dict [some k] [v] pos) (zn9 tk tv):=by
 intro pins s σ H Q I q;have hn:=I.hok.fresh (Nat.le_refl s.heap.objs.size);have I1:=I.laid (a:=s.heap.objs.size) (o:=.dT []) (h':=s.heap.push { cls:=.type "dict",data:=.dict #[] }) (t':=s.toks) (λ_ _ q=>Heap.get?_push_of_some _ q) (Nat.le_refl _) (zk9 s.heap I.big);refine wpAny_Dict_any rfl rfl (by simp) (by simp) (thn ((ze2 hk hv zhr) pins _ σ _ _ I1 (q _ hn)) λws s2 ⟨ps,H2,I2,rel,e,b,ks,y,ep,eb,q2⟩=>?_);subst ep
 cases rel with
 |@cons p1 q1 ps1 qs1 h1 t1=>
  cases t1;obtain⟨u1,u2⟩:=q1;obtain⟨ru,ry⟩:=h1;obtain rfl:u1=Value.ref b:=ru;obtain⟨z,hd,xs,rel,dd⟩:=zk5 I2.hok e
  cases rel;unfold storeAll;rw[List.forIn_cons];refine wpAny_bind (wpAny_bind (wpAny_dictSet_heap (hsz:=Nat.zero_le _) (show(tupleKind (ym X.prog X.w)).room X.A from Nat.lt_of_succ_lt hu) (zab I2.hok eb) dd λh' dd' hs=>wpAny_pure ?_));dsimp only;rw[List.forIn_nil];obtain⟨qo,es,ep,hq,h2,h3,h4,_,h5⟩:=dd';refine wpAny_pure ⟨.ref s.heap.objs.size,_,?_,rfl,q2⟩;refine za3 I2 (by rw[e];exact True.intro) hs ⟨qo,hq⟩ ⟨by rw[sizeLine_eq];simp,hd,_,?_,qo,es,ep,hq,h2,h3,h4,h5⟩;refine(KT.put (kvs:=[]) (xs:=[]) .nil ks eb ry).keeps λc ys ec=>?_;rw[zj (zos ec e (λz=>nomatch z))];exact ec
def za6(i j:Nat)(te:DTE):DTS:=λDn σ=>match σ[j]? with
 |some (some (.own (.tk ks)))=>te σ λd=>Dn.nx (σ.set i (some (.own (.dcT [(ks,d)]))))
 |_=>False
theorem zjb{i:Nat}(j:Nat){x y:Str}{m:Nat}(hr:Room m X.A)(hN:X.N.Nodup)(hi:X.N[i]?=some x)(hx:Loc X.env.scope x)(he:DE X e te)(hM:X.N[j]?=some y:=by rfl)(hvy:Vis X.env.scope y:=by first|exact Or.inl rfl|exact Or.inr (Or.inl rfl)|exact Or.inr (Or.inr rfl))
  (hdy:(y ==("__debug__" : Str))=false:=by decide) (hcy:(y ==("__classdict__" : Str))=false:=by decide)
  (hs:swapsWith (.Dict [some (.Name y p1)] [e] p2) (some (.Name x pos')) pos.line X.env=pure false:=by rfl) (hf:X.fn x=true\/X.env.scope.names.lookup x=some .local:=by first|exact .inl rfl|exact .inr rfl|assumption) :
  DS X (.Assign [.Name x pos'] (.Dict [some (.Name y p1)] [e] p2) pos) (za6 i j te) :=
 DS.of (vz hN hi hx (zja (by have:=hr.un;omega) (yp (i:=j) hM hvy hdy hcy) he.pe) hs hf) λσ H H₀ σD Dn ok q=>λp hp=>by
  unfold za6 at q
  split at q
  ·next ks e1=>
   have ok1:=ok.after (zw hp (.dT []));obtain⟨b,eb,hb⟩:=ok1.tk e1;refine⟨.ref b,eb,H₀,σD,_,ok1,q,λv2 H2 d2 s2 r2 q2=>?_⟩;have e3:H2 p=some (.dT []):=s2 _ _ zl;have sm:∀o',Same H (upd H2 p o'):=λo' b z hb=>by rw[zj (z0 hb hp)];exact s2 _ _ (zw hp _ _ _ hb)
   refine⟨e3,b,ks,v2,rfl,s2 _ _ hb,_,DOk.setF ok (sm _) (o:=.dcT [(ks,d2)]) (f:=[p]) (λb hb=>by rw[List.mem_singleton.mp hb];exact hp) (List.nodup_cons.mpr ⟨λz=>(nomatch z),List.nodup_nil⟩) ⟨p,_,rfl,rfl,zl,.cons (r2.mono (y9 e3 rfl)) RepKV.nil'⟩ i,(sm _).pers,q2⟩
  ·exact q.elim
end
end L2
namespace My
open PySem L2 PyProof.Rows
def top(i:Nat):Stmt:=PySem.Challenge.pw_knockpurse_k38_whole_purses.main.body.getD i (.Pass ⟨0,0,0,0⟩)
abbrev jr:Stmt:=top 21
abbrev k6:Stmt:=top 6
theorem ze9:zp ["thing"] ["thing"] (zi k6):=⟨rfl,rfl,rfl,by decide +kernel,rfl,by decide +kernel,by decide +kernel⟩
abbrev k7:Stmt:=top 7
theorem zfa:zp ["thing", "least", "most"] ["thing", "least", "most"] (zi k7):=⟨rfl,rfl,rfl,by decide +kernel,rfl,by decide +kernel,by decide +kernel⟩
abbrev qg:Stmt:=top 8
theorem zdy:zp ["thing", "bounds"] ["thing", "bounds"] (zi qg):=⟨rfl,rfl,rfl,by decide +kernel,rfl,by decide +kernel,by decide +kernel⟩
abbrev vh:Stmt:=top 17
theorem zcd:zp ["thing"] ["thing"] (zi vh):=⟨rfl,rfl,rfl,by decide +kernel,rfl,by decide +kernel,by decide +kernel⟩
abbrev wv:Stmt:=top 18
theorem zbs:zp ["purse", "coins", "many"] ["purse", "coins", "many"] (zi wv):=⟨rfl,rfl,rfl,by decide +kernel,rfl,by decide +kernel,by decide +kernel⟩
abbrev zah:Stmt:=top 19
theorem zgy:zp ["purse", "coins"] ["purse", "coins"] (zi zah):=⟨rfl,rfl,rfl,by decide +kernel,rfl,by decide +kernel,by decide +kernel⟩
abbrev k8:Stmt:=top 20
theorem zfb:zp ["purse", "coins", "sign"] ["purse", "coins", "sign"] (zi k8):=⟨rfl,rfl,rfl,by decide +kernel,rfl,by decide +kernel,by decide +kernel⟩
abbrev vi:Stmt:=top 22
theorem zce:zp ["thing"] ["thing"] (zi vi):=⟨rfl,rfl,rfl,by decide +kernel,rfl,by decide +kernel,by decide +kernel⟩
abbrev zai:Stmt:=top 23
theorem sc_gone_by:zp ["purse", "row", "kept", "unpaid", "place", "sign"] ["purse", "row"] (zi zai):=⟨rfl,rfl,rfl,by decide +kernel,rfl,by decide +kernel,by decide +kernel⟩
abbrev ww:Stmt:=top 24
theorem zbt:zp ["purse", "row"] ["purse", "row"] (zi ww):=⟨rfl,rfl,rfl,by decide +kernel,rfl,by decide +kernel,by decide +kernel⟩
abbrev x3:Stmt:=top 25
theorem zav:zp ["purse", "row"] ["purse", "row"] (zi x3):=⟨rfl,rfl,rfl,by decide +kernel,rfl,by decide +kernel,by decide +kernel⟩
abbrev zaj:Stmt:=top 26
theorem sc_paid_in:zp ["purse", "row", "unpaid"] ["purse", "row"] (zi zaj):=⟨rfl,rfl,rfl,by decide +kernel,rfl,by decide +kernel,by decide +kernel⟩
abbrev qh:Stmt:=top 27
theorem zdz:zp ["purse", "row"] ["purse", "row"] (zi qh):=⟨rfl,rfl,rfl,by decide +kernel,rfl,by decide +kernel,by decide +kernel⟩
abbrev xa:Stmt:=top 28
theorem k9:zp ["thing"] ["thing"] (zi xa):=⟨rfl,rfl,rfl,by decide +kernel,rfl,by decide +kernel,by decide +kernel⟩
abbrev xr:Stmt:=top 29
theorem zak:zp ["thing"] ["thing"] (zi xr):=⟨rfl,rfl,rfl,by decide +kernel,rfl,by decide +kernel,by decide +kernel⟩
abbrev vj:Stmt:=top 30
theorem sc_far_behind:zp ["purse", "row", "coins", "paid", "sign", "many", "payable"] ["purse", "row"] (zi vj):=⟨rfl,rfl,rfl,by decide +kernel,rfl,by decide +kernel,by decide +kernel⟩
abbrev qi:Stmt:=top 31
theorem sc_most_paid:zp ["purse", "n", "paid", "left", "totals", "seen"] ["purse", "n"] (zi qi):=⟨rfl,rfl,rfl,by decide +kernel,rfl,by decide +kernel,by decide +kernel⟩
abbrev wx:Stmt:=top 32
theorem sc_going_round:zp ["totals", "begin", "n", "rounds", "rest"] ["totals", "begin", "n"] (zi wx):=⟨rfl,rfl,rfl,by decide +kernel,rfl,by decide +kernel,by decide +kernel⟩
abbrev ja:Stmt:=top 33
theorem sc_best_row:zp ["purse", "n", "deeds", "paid", "left", "row"] ["purse", "n"] (zi ja):=⟨rfl,rfl,rfl,by decide +kernel,rfl,by decide +kernel,by decide +kernel⟩
abbrev x4:Stmt:=top 34
theorem sc_most_between:zp ["purse", "n", "part", "price", "cap", "first", "fullest"] ["purse", "n"] (zi x4):=⟨rfl,rfl,rfl,by decide +kernel,rfl,by decide +kernel,by decide +kernel⟩
abbrev zd0:Stmt:=top 35
theorem sc_parts:zp ["one", "other", "thing", "ahead"] ["one", "other", "thing"] (zi zd0):=⟨rfl,rfl,rfl,by decide +kernel,rfl,by decide +kernel,by decide +kernel⟩
abbrev qj:Stmt:=top 36
theorem sc_parted_by:zp ["one", "other", "greater", "begin", "rows", "reached", "at", "coins", "other_coins", "row", "sign", "further"] ["one", "other"] (zi qj):=⟨rfl,rfl,rfl,by decide +kernel,rfl,by decide +kernel,by decide +kernel⟩
abbrev zd1:Stmt:=top 37
theorem sc_later:zp ["purse", "coins", "part", "price", "cap", "first"] ["purse", "coins"] (zi zd1):=⟨rfl,rfl,rfl,by decide +kernel,rfl,by decide +kernel,by decide +kernel⟩
abbrev x5:Stmt:=top 39
theorem zaw:zp ["_law_script", "_law_k"] ["_law_script", "_law_k"] (zi x5):=⟨rfl,rfl,rfl,by decide +kernel,rfl,by decide +kernel,by decide +kernel⟩
abbrev qk:Stmt:=top 40
theorem sc__law_next:zp ["_law_seed"] ["_law_seed"] (zi qk):=⟨rfl,rfl,rfl,by decide +kernel,rfl,by decide +kernel,by decide +kernel⟩
abbrev wy:Stmt:=top 41
theorem sc__law_pen_of:zp ["_law_cell", "_law_left"] ["_law_cell"] (zi wy):=⟨rfl,rfl,rfl,by decide +kernel,rfl,by decide +kernel,by decide +kernel⟩
abbrev ql:Stmt:=top 42
theorem sc__law_draw:zp ["_law_pen", "_law_many", "_law_found"] ["_law_pen", "_law_many"] (zi ql):=⟨rfl,rfl,rfl,by decide +kernel,rfl,by decide +kernel,by decide +kernel⟩
abbrev vk:Stmt:=top 43
theorem sc__law_purse:zp ["_law_pen", "_law_way", "_law_part", "_law_price", "_law_cap", "_law_purse_here"] ["_law_pen"] (zi vk):=⟨rfl,rfl,rfl,by decide +kernel,rfl,by decide +kernel,by decide +kernel⟩
abbrev vm:Stmt:=top 44
theorem sc__law_small:zp ["_law_pen", "_law_most", "_law_cap", "_law_purse_here"] ["_law_pen", "_law_most"] (zi vm):=⟨rfl,rfl,rfl,by decide +kernel,rfl,by decide +kernel,by decide +kernel⟩
abbrev xm:Stmt:=top 45
theorem sc__law_row_right:zp ["_law_purse_here", "_law_row", "_law_at", "_law_ahead", "_law_rest", "_law_behind"] ["_law_purse_here", "_law_row", "_law_at"] (zi xm):=⟨rfl,rfl,rfl,by decide +kernel,rfl,by decide +kernel,by decide +kernel⟩
abbrev xb:Stmt:=top 46
theorem sc__law_most_right:zp ["_law_purse_here", "_law_many", "_law_most", "_law_row", "_law_short", "_law_due"] ["_law_purse_here", "_law_many"] (zi xb):=⟨rfl,rfl,rfl,by decide +kernel,rfl,by decide +kernel,by decide +kernel⟩
abbrev xn:Stmt:=top 47
theorem sc__law_two_right:zp ["_law_one", "_law_other", "_law_row", "_law_found"] ["_law_one", "_law_other", "_law_row"] (zi xn):=⟨rfl,rfl,rfl,by decide +kernel,rfl,by decide +kernel,by decide +kernel⟩
abbrev zly:Stmt:=top 48
theorem sc_law:zp ["_law_script", "_law_cell", "_law_pen", "_law_purse_here", "_law_few", "_law_other", "_law_row", "_law_at", "_law_many", "_law_one"] ["_law_script"] (zi zly):=⟨rfl,rfl,rfl,by decide +kernel,rfl,by decide +kernel,by decide +kernel⟩
abbrev yj:Stmt:=za1 jr 0
theorem jb:zp ["self", "purse"] ["self", "purse"] (zi yj):=⟨rfl,rfl,rfl,by decide +kernel,rfl,by decide +kernel,by decide +kernel⟩
abbrev y4:Stmt:=za1 jr 1
theorem zcf:zp ["self"] ["self"] (zi y4):=⟨rfl,rfl,rfl,by decide +kernel,rfl,by decide +kernel,by decide +kernel⟩
abbrev yr:Stmt:=za1 jr 2
theorem sc_Purse__knock:zp ["self", "paid"] ["self"] (zi yr):=⟨rfl,rfl,rfl,by decide +kernel,rfl,by decide +kernel,by decide +kernel⟩
abbrev yt:Stmt:=za1 jr 3
theorem zbu:zp ["self"] ["self"] (zi yt):=⟨rfl,rfl,rfl,by decide +kernel,rfl,by decide +kernel,by decide +kernel⟩
structure Blt(mg:Str->Option Value):Prop where
 len:mg "len" = none
 range:mg "range" = none
 enumerate:mg "enumerate" = none
 min:mg "min" = none
 max:mg "max" = none
 isinstance:mg "isinstance" = none
 all:mg "all" = none
 zip:mg "zip" = none
 abs:mg "abs" = none
 divmod:mg "divmod" = none
 tupleT:mg "tuple" = none
 intT:mg "int" = none
 strT:mg "str" = none
 boolT:mg "bool" = none
def yx(K:PySem.W.Frag)(x:Str)(st:Stmt):Prop:=∃f fd,PySem.W.nsIn K mainGlobals x=some (some (.ref f))/\Fun K x x st f fd
theorem fn_at{K:PySem.W.Frag}{x:Str}{st:Stmt}{f:Addr}{od an:Option Addr}{sl:Array (Option Value)}{oc kV dc pm cd ct:Value}(a:PySem.W.nsIn K mainGlobals x=some (some (.ref f)))(l:K.lookup f=some ⟨oc,od,.func (PySem.W.fnOf x x (y8 st) (yv st) (zi st) .none kV dc pm an cd ct),sl⟩)(c:PySem.W.codeIn K cd x=true)(k:PySem.W.keepIn K (.ref f)=true):yx K x st:=⟨f,_,a,zbd l c k⟩
theorem zjc{K:PySem.W.Frag}{x:Str}{st:Stmt}{f:Addr}{fd:FuncData}{s:Shared}{v:Value}{ps:List (Str×Value)}(F:Fun K x x st f fd)(h:∀(kV doc pm:Value) (an:Option Addr) (cdv ct:Value),bindArgs (PySem.W.fnOf x x (y8 st) (yv st) (zi st) .none kV doc pm an cdv ct) ⟨[v],[]⟩=pure ps):BindsTo s fd ⟨[v],[]⟩ ps:=by
 obtain⟨oc,od,kV,doc,pm,an,cdv,ct,osl,rfl,lk,hcd⟩:=F.ex;exact .of_eq (h kV doc pm an cdv ct)
abbrev Cal(P:Program)(w:World)(K:PySem.W.Frag)(mg:Str->Option Value)(base:Heap):=j3 P w K mg base
local macro_rules|`(tactic| walk_at "dr")=>`(tactic| dsimp only[↓zla,↓zlc,↓zri,↓zrj,↓ze7,↓zhw,↓zhx,↓zle,↓zro,↓zrp,↓zn1,↓zrq,↓zlj,↓zgs,↓jq,↓kx,↓zgr,↓zrk,↓zdt,↓O.bare,↓O.with,↓zni,↓zkv,↓zq9,↓zkx,↓zky,↓zra,↓zrb,↓zk0,↓zdv,↓zdw,↓dTk,↓zdx,↓za6,↓zn7,↓zlv,↓zgv,↓zgx,↓zlm,↓zhy,↓zgt,↓znn,↓dIf,↓zrc,↓zq8,↓zkw,↓zno,↓znj,↓zgk,↓zm4,↓zm5,↓dC,↓zhk,↓zm6,↓zes,↓zka,↓zm7,↓zqd,↓zqe,↓dFz,↓dTB,↓onB,↓dOr,↓zqf,↓zqg,↓zkb,↓zkc,↓zqh,↓dOp,↓zdi,↓dUn,↓zqi,↓zqj,↓gII,↓zdj,↓zql,↓zqm,↓zqn,↓zqo,↓gEq,↓gNe,↓zqp,↓zki,↓ko,↓gIn,↓dCB,↓zqr,↓zqs,↓zqt,↓zqu,↓zqv,↓zge,↓gIx,↓zkk,↓zdl,↓zdm,↓za2,↓zdn,↓zhm,↓zdp,↓zq4,↓zgg,↓zkp,↓zgh,↓zkq,↓zk3,↓dLC,↓lcF,↓zkr,↓zkt,↓zgj,↓Ret.d,↓qc,↓xj,↓zev,↓clr,↓zqc,↓dIs,↓isD,↓zqw,↓zhs,List.map_cons,List.map_nil,List.length_cons,List.length_nil,List.replicate_succ,List.replicate_zero,List.cons_append,List.nil_append,List.append_nil,List.set_cons_zero,List.set_cons_succ,List.getElem?_cons_zero,List.getElem?_cons_succ,Option.join_some,Nat.reduceAdd,Nat.reduceSub,Nat.zero_add,Bool.not_true,Bool.not_false])
local macro_rules|`(tactic| walk_at "ds")=>`(tactic| first|simp only[↓zla,↓zlc,↓zri,↓zrj,↓ze7,↓zhw,↓zhx,↓zle,↓zro,↓zrp,↓zn1,↓zrq,↓zlj,↓zgs,↓jq,↓kx,↓zgr,↓zrk,↓zdt,↓O.bare,↓O.with,↓zni,↓zkv,↓zq9,↓zkx,↓zky,↓zra,↓zrb,↓zk0,↓zdv,↓zdw,↓dTk,↓zdx,↓za6,↓zn7,↓zlv,↓zgv,↓zgx,↓zlm,↓zhy,↓zgt,↓znn,↓dIf,↓zrc,↓zq8,↓zkw,↓zno,↓znj,↓zgk,↓zm4,↓zm5,↓dC,↓zhk,↓zm6,↓zes,↓zka,↓zm7,↓zqd,↓zqe,↓dFz,↓dTB,↓onB,↓dOr,↓zqf,↓zqg,↓zkb,↓zkc,↓zqh,↓dOp,↓zdi,↓dUn,↓zqi,↓zqj,↓gII,↓zdj,↓zql,↓zqm,↓zqn,↓zqo,↓gEq,↓gNe,↓zqp,↓zki,↓ko,↓gIn,↓dCB,↓zqr,↓zqs,↓zqt,↓zqu,↓zqv,↓zge,↓gIx,↓zkk,↓zdl,↓zdm,↓za2,↓zdn,↓zhm,↓zdp,↓zq4,↓zgg,↓zkp,↓zgh,↓zkq,↓zk3,↓dLC,↓lcF,↓zkr,↓zkt,↓zgj,↓Ret.d,↓qc,↓xj,↓zev,↓clr,↓zqc,↓dIs,↓isD,↓zqw,↓zhs,List.map_cons,List.map_nil,List.length_cons,List.length_nil,List.replicate_succ,List.replicate_zero,List.cons_append,List.nil_append,List.append_nil,List.set_cons_zero,List.set_cons_succ,List.getElem?_cons_zero,List.getElem?_cons_succ,Option.join_some,Nat.reduceAdd,Nat.reduceSub,Nat.zero_add,Bool.not_true,Bool.not_false,if_true,if_false,reduceIte,decide_eq_true_eq,Bool.not_eq_true',decide_eq_false_iff_not,true_and,and_true,Bool.false_eq_true,Bool.not_eq_eq_eq_not,eq_self,and_self,List.isEmpty_nil,List.isEmpty_cons,reduceCtorEq,sizeLine_eq,Nat.reduceLeDiff,Nat.zero_le]|skip)
section
variable {P:Program}{w:World}{K:PySem.W.Frag}{mg:Str->Option Value}{base:Heap}{f:Addr}{fd:FuncData}
def vt:DSp:=λws Q=>∃(ns:List Int) (k:Int),ws = [.scr ns,.val (.int k)]/\0<=k/\∀v:Int,Q (.val (.int v))
theorem zax(B:Blt mg)(F:Fun K "_law_cell_at" "_law_cell_at" x5 f fd):FnOk P w K mg base CX0 1 f fd ["_law_script", "_law_k"] (zq K vt):=by
 refine F.dok zaw (λws Q h=>?_) (λcdv A outer s H ws Q E hr h=>?_)
 ·obtain⟨ns,k,rfl,_⟩:=h;rfl
 obtain⟨ns,k,rfl,h0,q⟩:=h;refine⟨_,(za (yk (yg zm8 (zc 1) (DE.dv (ziw 0 rfl B.len)) (zx _)) (zf (zo (zkl 0 (zn 1) (λ_ _=>rfl)))) z9) (zf (zo ze))),?_⟩;walk_at "ds"
 split
 ·next c=>
  obtain⟨v,e,_⟩:=zj8 (xs:=ns) h0 c;exact⟨v,e,q v⟩
 ·exact q 0
def vn:DSp:=λws Q=>∃k:Int,ws = [.val (.int k)]/\∀v:Int,Q (.val (.int v))
theorem zd2(B:Blt mg)(F:Fun K "_law_next" "_law_next" qk f fd):FnOk P w K mg base CX0 1 f fd ["_law_seed"] (zq K vn):=by
 refine F.dok sc__law_next (λws Q h=>?_) (λcdv A outer s H ws Q E hr h=>?_)
 ·obtain⟨k,rfl,_⟩:=h;rfl
 obtain⟨k,rfl,q⟩:=h;refine⟨_,(za (yi (i:=0) sc__law_next.nd rfl (Or.inl rfl) (ya zkh (DE.dv (ya yq (zc 0) (DE.dv ze))) (DE.dv ze))) (zf (zo (ya zkh (DE.dv (ya yq (DE.dv (ya yq (DE.dv (ya zeu (zc 0) (zc 0))) (DE.dv (ya zeu (DE.dv ze) (zc 0))))) (DE.dv ze))) (DE.dv ze))))),?_⟩;walk_at "ds";have h1:0<=(k+7919) % 2147483647:=Int.emod_nonneg _ (by decide);have h2:(k+7919) % 2147483647<2147483647:=Int.emod_lt_of_pos _ (by decide);exact⟨by decide,.inl ⟨by omega,by omega⟩,.inl ⟨by omega,by omega⟩,by decide,q _⟩
def qm:DSp:=λws Q=>∃k:Int,ws = [.val (.int k)]/\∀a b c:Int,Q (.new [.int a,.int b,.int c])
theorem zbv(B:Blt mg)(F:Fun K "_law_pen_of" "_law_pen_of" wy f fd):FnOk P w K mg base CX0 1 f fd ["_law_cell"] (zq K qm):=by
 refine F.dok sc__law_pen_of (λws Q h=>?_) (λcdv A outer s H ws Q E hr h=>?_)
 ·obtain⟨k,rfl,_⟩:=h;rfl
 obtain⟨k,rfl,q⟩:=h;refine⟨_,(za (yi (i:=1) sc__law_pen_of.nd rfl (Or.inl rfl) (zy (zo3 rfl) rfl B.max boot_max (zm (zc 0) (zm (DE.dv (ya v6 (DE.dv ze) (zc 0))) yb)))) (zf (znk (wm (zg (zn 1) (zg (zcz ztn rfl B.intT boot_int (zm (DE.dv (wo zth (zc 1) (DE.dv (ya ztg (DE.dv ze) (DE.dv ze))) (zx _))) yb)) (zg (ya zkh (zc 1) (DE.dv ze)) yd))))))),?_⟩;walk_at "ds";exact⟨⟨by decide,by decide,by decide⟩,by decide,q _ _ _⟩
def zlz:Sp:=λvs H Q _=>∃k:Int,vs = [.int k]/\∀(v:Int) H',Same H H'->Q (.int v) H'
theorem zrz{k:Nat}{x:Str}{ps:List Str}(C:Cal P w K mg base k x ps (zq K vn)):Cal P w K mg base k x ps zlz:=by
 obtain⟨f,fd,F,r⟩:=C;refine⟨f,fd,F.imp λvs H Q E h=>?_,r⟩;obtain⟨k,rfl,q⟩:=h;exact⟨[.val (.int k)],λr=>∃i:Int,r=.val (.int i),.cons (show Rep K H (.int k) _ from .int) .nil,⟨k,rfl,λv=>⟨v,rfl⟩⟩,λv H' r sm rp ⟨i,e⟩=>by subst e;cases (show Rep K H' (.int i) v from rp);exact q i H' sm⟩
theorem zd3(B:Blt mg)(F:Fun K "_law_draw" "_law_draw" ql f fd)(Cd:Cal P w K mg base 1 "_law_next" ["_law_seed"] (zq K vn)):FnOk P w K mg base CX0 2 f fd ["_law_pen", "_law_many"] (zq K y3):=by
 have C__law_next:=zrz Cd;refine zrd (F.ok sc__law_draw (λvs H Q E h=>?_) (λcdv A outer s H vs Q E hr h=>?_))
 ·obtain⟨p,m,rfl,_⟩:=h;rfl
 obtain⟨p,m,rfl,hm,hM,⟨a,b,c,hp⟩,q⟩:=h;refine⟨_,(jh (zsk (zte (zpn (zhg zot (zao ix_list (pv 0) xg (λ_ _=>rfl)) xg (zx _)) (zmm (zhg zou (zao ix_list (pv 0) xg (λ_ _=>rfl)) xg (zx _))))) (jh (vz (i:=2) sc__law_draw.nd rfl (Or.inl rfl) (zei zfz (zao ix_list (pv 0) xg (λ_ _=>rfl)) (pv 1))) (jh (zfw (zei zbe (zao ix_list (pv 0) xg (λ_ _=>rfl)) (pv 1)) (zjj (pv 0) xg zeq)) (zha (j0 (pv 2))))) zmn) (jh (zfw (zbf C__law_next hr rfl (yu (zei zjo (zbf C__law_next hr rfl (yu (zao ix_list (pv 0) xg (λ_ _=>rfl)) xy)) xg) xy)) (zjj (pv 0) xg zeq)) (zha (j0 (zei zfz (zei zbe (zao ix_list (pv 0) xg (λ_ _=>rfl)) xg) (pv 1)))))),?_⟩;have hS:SqL K H p [.int a,.int b,.int c]:=SqL.of hp;refine⟨_,rfl,p,_,_,_,rfl,rfl,hS,rfl,rfl,_,rfl,?_⟩;refine zs8 (λc1=>?_) (λc1=>?_)
 ·refine⟨_,rfl,p,_,_,_,rfl,rfl,hS,rfl,_,_,rfl,rfl,_,rfl,?_⟩;refine zs8 (λc2=>?_) (λc2=>?_)
  ·refine⟨_,rfl,p,_,_,_,rfl,rfl,hS,rfl,_,rfl,_,_,rfl,rfl,hm,?_⟩;refine⟨_,rfl,p,_,_,_,rfl,rfl,hS,rfl,_,rfl,_,_,rfl,rfl,⟨hm,hM⟩,?_⟩;refine⟨_,rfl,p,_,_,_,rfl,rfl,hp,rfl,?_⟩;exact⟨_,rfl,q _ _ (Int.emod_nonneg _ (by omega)) (Int.emod_lt_of_pos _ hm) ⟨a / m,b,c,zl⟩ But.write⟩
  ·refine⟨_,rfl,p,_,_,_,rfl,rfl,hS,rfl,_,rfl,λv1 H1 s1=>⟨_,_,rfl,rfl,_,rfl,λv2 H2 s2=>⟨_,rfl,p,_,_,_,rfl,rfl,s2 _ _ (s1 _ _ hp),rfl,?_⟩⟩⟩;refine⟨_,rfl,p,_,_,_,rfl,rfl,SqL.of zl,rfl,_,_,rfl,rfl,⟨by decide,by decide⟩,_,rfl,_,_,rfl,rfl,hm,?_⟩;exact q _ _ (Int.emod_nonneg _ (by omega)) (Int.emod_lt_of_pos _ hm) ⟨a,b,v2,zl⟩ ((But.of_same (s1.trans s2)).trans But.write)
 ·refine zum ?_;refine⟨_,rfl,p,_,_,_,rfl,rfl,hS,rfl,_,rfl,λv1 H1 s1=>⟨_,_,rfl,rfl,_,rfl,λv2 H2 s2=>⟨_,rfl,p,_,_,_,rfl,rfl,s2 _ _ (s1 _ _ hp),rfl,?_⟩⟩⟩;refine⟨_,rfl,p,_,_,_,rfl,rfl,SqL.of zl,rfl,_,_,rfl,rfl,⟨by decide,by decide⟩,_,rfl,_,_,rfl,rfl,hm,?_⟩;exact q _ _ (Int.emod_nonneg _ (by omega)) (Int.emod_lt_of_pos _ hm) ⟨a,b,v2,zl⟩ ((But.of_same (s1.trans s2)).trans But.write)
def zd4:DSp:=λws Q=>∃ns:List Int,ws = [.scr ns]/\ns.length<=63/\Q (.val (.bool true))
def stP(a b p:Int)(c:Int):Int:=min (c % p+a) b
def vP(a b p:Int):Nat->Int->Int
 |0,c=>c / p
 |m+1,c=>c / p+vP a b p m (stP a b p c)
def wP(a b p:Int):Nat->Int->Int
 |0,_=>0
 |m+1,l=>vP a b p m (min (l+a) b)
section
variable {a b p:Int}
theorem zgz(m:Nat)(c:Int):vP a b p m c=c / p+wP a b p m (c % p):=by
 cases m with
 |zero=>simp[vP,wP]
 |succ m=>rfl
theorem zl0(hp:0<p)(m:Nat)(c j:Int):vP a b p m (c+j * p)=j+vP a b p m c:=by
 rw[zgz,zgz,Int.add_mul_ediv_right _ _ (by omega),Int.add_mul_emod_self_right];omega
theorem zd5(hp:0<p):∀m:Nat,(∀l l':Int,l<=l'->wP a b p m l<=wP a b p m l')/\∀l j:Int,0<=j->wP a b p m (l+j * p)<=j+wP a b p m l:=by
 intro m
 induction m with
 |zero=>exact⟨λ_ _ _=>Int.le_refl _,λl j h=>by simp[wP];exact h⟩
 |succ m ih=>
  obtain⟨i1,i2⟩:=ih;have mono:∀x y:Int,x<=y->vP a b p m x<=vP a b p m y:=by
   intro x y h;rw[zgz,zgz];have e1:=Int.emod_add_mul_ediv x p;have e2:=Int.emod_add_mul_ediv y p;have l1:=Int.emod_lt_of_pos x hp;have l2:=Int.emod_lt_of_pos y hp;have n1:=Int.emod_nonneg x (show p≠0 by omega);have n2:=Int.emod_nonneg y (show p≠0 by omega);have hq:x / p<=y / p:=Int.ediv_le_ediv hp h
   by_cases hE:x / p=y / p
   ·rw[hE]at e1 ⊢;have:=i1 (x % p) (y % p) (by omega);omega
   ·have h1:=i1 (x % p) (y % p+1 * p) (by omega);have h2:=i2 (y % p) 1 (by omega);omega
  refine⟨λl l' h=>?_,λl j hj=>?_⟩
  ·exact mono _ _ (by omega)
  ·show vP a b p m (min (l+j * p+a) b)<=j+vP a b p m (min (l+a) b);have hjp:0<=j * p:=Int.mul_nonneg hj (by omega);have h1:=mono (min (l+j * p+a) b) (min (l+a) b+j * p) (by omega);rw[zl0 hp]at h1;exact h1
theorem zoa(hp:0<p)(m:Nat){x y:Int}(h:x<=y):vP a b p m x<=vP a b p m y:=by
 have z:∀m:Nat,∀x y:Int,x<=y->vP a b p m x<=vP a b p m y:=by
  intro m x y h;have i1:=(zd5 (a:=a) (b:=b) hp m).1;have i2:=(zd5 (a:=a) (b:=b) hp m).2;rw[zgz,zgz];have e1:=Int.emod_add_mul_ediv x p;have e2:=Int.emod_add_mul_ediv y p;have l1:=Int.emod_lt_of_pos x hp;have n2:=Int.emod_nonneg y (show p≠0 by omega);have hq:x / p<=y / p:=Int.ediv_le_ediv hp h
  by_cases hE:x / p=y / p
  ·rw[hE]at e1 ⊢;have:=i1 (x % p) (y % p) (by omega);omega
  ·have h1:=i1 (x % p) (y % p+1 * p) (by omega);have h2:=i2 (y % p) 1 (by omega);omega
 exact z m x y h
theorem zl1(hp:0<p)(m:Nat){c k:Int}(hk:k<=c / p):k+wP a b p m (c-k * p)<=vP a b p m c:=by
 rw[zgz];have h1:=(zd5 (a:=a) (b:=b) hp m).2 (c % p) (c / p-k) (by omega);have e:=Int.emod_add_mul_ediv c p;have e2:c % p+(c / p-k) * p=c-k * p:=by
  rw[Int.sub_mul,Int.mul_comm (c / p) p];omega
 rw[e2]at h1;omega
def cP(a b p:Int)(c:Int):Nat->Int
 |0=>c
 |i+1=>stP a b p (cP a b p c i)
theorem zbw(c:Int):∀i:Nat,cP a b p (stP a b p c) i=cP a b p c (i+1)
 |0=>rfl
 |i+1=>by show stP a b p _=stP a b p _;rw[zbw c i]
theorem jt:∀(m:Nat) (c:Int),vP a b p (m+1) c=vP a b p m c+cP a b p c (m+1) / p:=by
 intro m
 induction m with
 |zero=>intro c;rfl
 |succ m ih=>
  intro c;show c / p+vP a b p (m+1) (stP a b p c)=c / p+vP a b p m (stP a b p c)+_;rw[ih,zbw];omega
theorem zob{c:Int}{i j:Nat}(h:cP a b p c i % p=cP a b p c j % p):∀k:Nat,cP a b p c (i+k) % p=cP a b p c (j+k) % p:=by
 intro k
 induction k with
 |zero=>exact h
 |succ k ih=>
  show stP a b p (cP a b p c (i+k)) % p=stP a b p (cP a b p c (j+k)) % p;unfold stP;rw[ih]
theorem zoc{c:Int}{i j:Nat}(h:cP a b p c i % p=cP a b p c j % p):cP a b p c (i+1)=cP a b p c (j+1):=by
 show stP a b p (cP a b p c i)=stP a b p (cP a b p c j);unfold stP;rw[h]
theorem zod{c:Int}{i l:Nat}(h:cP a b p c i % p=cP a b p c (i+l) % p):∀k:Nat,vP a b p (i+l+k) c=vP a b p (i+k) c+(vP a b p (i+l) c-vP a b p i c):=by
 intro k
 induction k with
 |zero=>simp;omega
 |succ k ih=>
  rw[show i+l+(k+1)=i+l+k+1 by omega,show i+(k+1)=i+k+1 by omega,jt,jt,ih];have:=zoc (zob h k);rw[this];omega
theorem zl2{c:Int}{i l:Nat}(h:cP a b p c i % p=cP a b p c (i+l) % p):∀(q r:Nat),vP a b p (i+l * q+r) c=vP a b p (i+r) c+(q:Int) *(vP a b p (i+l) c-vP a b p i c):=by
 intro q
 induction q with
 |zero=>intro r;simp
 |succ q ih=>
  intro r;rw[show i+l *(q+1)+r=i+l+(l * q+r) by rw[Nat.mul_succ];omega,zod h,show i+(l * q+r)=i+l * q+r by omega,ih,Int.natCast_add,Int.add_mul];simp;omega
theorem zty{c:Int}{i l n:Nat}(h:cP a b p c i % p=cP a b p c (i+l) % p)(hn:i<=n)(l0:0<l):
  vP a b p (i+(n-i) % l) c+((n-i) / l:Nat) *(vP a b p (i+l) c-vP a b p i c)=vP a b p n c:=by
 have e:=Nat.div_add_mod (n-i) l;have:=zl2 h ((n-i) / l) ((n-i) % l);rw[show i+l *((n-i) / l)+(n-i) % l=n by omega]at this;exact this.symm
end
theorem nodup_len:∀(n:Nat) (l:List Int),l.Nodup->(∀x∈l,0<=x/\x<n)->l.length<=n:=by
 intro n
 induction n with
 |zero=>
  intro l _ h
  cases l with
  |nil=>exact Nat.le_refl _
  |cons x l=>have:=h x List.mem_cons_self;omega
 |succ n ih=>
  intro l nd h
  by_cases hm:(n:Int)∈l
  ·have h1:=ih (l.erase (n:Int)) (nd.erase _) λx hx=>by
    have hx2:=(nd.mem_erase_iff.mp hx)
    have:=h x hx2.2;have hne:x≠(n:Int):=hx2.1;omega
   have h2:=List.length_erase_of_mem hm;omega
  ·have h1:=ih l nd λx hx=>by
    have:=h x hx;have hne:x≠(n:Int):=λz=>hm (z ▸ hx);omega
   omega
def pD(r:Int×Int):D:=.tuple [.int r.1,.int r.2]
def whB:D->Bool
 |.int _=>true
 |_=>false
def inB(lo hi:Int):D->Bool
 |.int i=>decide (lo<=i/\i<=hi)
 |_=>false
def zap:DSp:=λws Q=>∃d:D,ws = [.val d]/\Q (.val (.bool (whB d)))
theorem zfc(B:Blt mg)(F:Fun K "is_whole" "is_whole" k6 f fd):FnOk P w K mg base CX0 1 f fd ["thing"] (zq K zap):=by
 refine F.dok ze9 (λws Q h=>?_) (λcdv A outer s H ws Q E hr h=>?_)
 ·obtain⟨d,rfl,_⟩:=h;rfl
 obtain⟨d,rfl,q⟩:=h;refine⟨_,(zf (zo (zbi (j5 (n := "int") zto rfl B.isinstance boot_isinstance (zc 0) rfl B.intT boot_int) (zbh (zqk (j5 (n := "bool") zqx rfl B.isinstance boot_isinstance (zc 0) rfl B.boolT boot_bool)))))),?_⟩;walk_at "ds"
 cases d <;> exact q
def wf:DSp:=λws Q=>∃(d:D) (lo hi:Int),ws = [.val d,.val (.int lo),.val (.int hi)]/\Q (.val (.bool (inB lo hi d)))
theorem zfd(B:Blt mg)(F:Fun K "whole_in" "whole_in" k7 f fd)(C_is_whole:Cal P w K mg base 1 "is_whole" ["thing"] (zq K zap)):FnOk P w K mg base CX0 2 f fd ["thing", "least", "most"] (zq K wf):=by
 refine F.dok zfa (λws Q h=>?_) (λcdv A outer s H ws Q E hr h=>?_)
 ·obtain⟨d,lo,hi,rfl,_⟩:=h;rfl
 obtain⟨d,lo,hi,rfl,q⟩:=h;refine⟨_,(zf (zo (zbi (zb C_is_whole hr rfl (zd 0 zh)) (zbh (zke zgd zgd (zc 1) (zc 0) (zc 2)))))),?_⟩;walk_at "ds";refine⟨d,rfl,?_⟩
 cases d with
 |int i=>
  simp only[whB];walk_at "ds"
  split
  ·next c=>simpa[inB,c]using q
  ·next c=>simpa[inB,c]using q
 |_=>simp only[whB];walk_at "ds";exact q
def xv(bs:List (Int×Int)):D->Bool
 |.tuple xs=>decide (xs.length=bs.length) && (xs.zip bs).all λp=>inB p.2.1 p.2.2 p.1
 |_=>false
theorem zfe:∀(xs:List D) (bs:List (Int×Int)),qa xs (bs.map pD)=(xs.zip bs).map λp=>PyData.tuple [p.1,pD p.2]
 |[],_=>by simp[qa]
 |_::_,[]=>by simp[qa]
 |x::xs,b::bs=>by
  have:=zfe xs bs;simp only[qa]at this;simp[qa,this]
def ju:DSp:=λws Q=>∃(d:D) (bs:List (Int×Int)),ws = [.val d,.val (.tuple (bs.map pD))]/\bs.length<=1000/\Q (.val (.bool (xv bs d)))
theorem zd6(B:Blt mg)(F:Fun K "wholes_in" "wholes_in" qg f fd)(C_whole_in:Cal P w K mg base 2 "whole_in" ["thing", "least", "most"] (zq K wf)):FnOk P w K mg base CX0 3 f fd ["thing", "bounds"] (zq K ju):=by
 refine F.dok zdy (λws Q h=>?_) (λcdv A outer s H ws Q E hr h=>?_)
 ·obtain⟨d,bs,rfl,_⟩:=h;rfl
 obtain⟨d,bs,rfl,hl,q⟩:=h;refine⟨_,(za (yk (DWt.dt (v5 (xh (xi (DE.dv (j5 (n := "tuple") zdk rfl B.isinstance boot_isinstance (zc 0) rfl B.tupleT boot_tuple)))) (wn (yg (zbk hr) (DE.dv (zy w4 rfl B.len PySem.boot_len (zm (zc 0) yb))) (DE.dv (zy w4 rfl B.len PySem.boot_len (zm (zc 1) yb))) (zx _))))) (zf (zo y6)) z9) (zf (zo (zy (zkj rfl) rfl B.all boot_all (zm (DE.dv (DF.de (zew rfl (N':=["number", "least", "most"]) (capt:=[]) (k:=3) (js:=[]) ⟨rfl,by decide,rfl,by decide,.nil,rfl,.nil,rfl,by decide⟩ (zng rfl B.zip (zm (zc 0) (zm (zc 1) yb))) (λ_ _ _ _=>(xk (n:=2) rfl (zr (zt (i:=0) (show List.Nodup (["number", "least", "most"]:List Str) by decide +kernel) rfl (Or.inl rfl) (Or.inr rfl)) (zr (xk (n:=2) rfl (zr (zt (i:=1) (show List.Nodup (["number", "least", "most"]:List Str) by decide +kernel) rfl (Or.inl rfl) (Or.inr rfl)) (zr (zt (i:=2) (show List.Nodup (["number", "least", "most"]:List Str) by decide +kernel) rfl (Or.inl rfl) (Or.inr rfl)) y0))) y0)))) (λ_ _ _ _=>ji) (λ_ _ _ _=>(zb C_whole_in hr rfl (zd 0 (zd 1 (zd 2 zh)))))))) yb))))),?_⟩
 cases d with
 |tuple xs=>
  walk_at "ds";rw[List.length_map,zfe];simp only[xv]at q
  by_cases c:xs.length=bs.length
  ·rw[if_neg (λz=>z (by rw[c]))];rw[decide_eq_true c,Bool.true_and]at q;refine⟨by rw[List.length_map,List.length_zip];omega,jk _ (λp:D×(Int×Int)=>.bool (inB p.2.1 p.2.2 p.1)) (λp hp k hk=>?_) ⟨(xs.zip bs).map λp=>inB p.2.1 p.2.2 p.1,?_,?_⟩⟩
   ·simp only[pD];walk_at "ds";exact⟨p.1,p.2.1,p.2.2,rfl,hk⟩
   ·have:=kr ((xs.zip bs).map λp=>inB p.2.1 p.2.2 p.1);rw[List.map_map]at this;exact this
   ·rw[List.all_map];exact q
  ·rw[if_pos (λz=>c (by omega))];rw[decide_eq_false c,Bool.false_and]at q;exact q
 |_=>walk_at "ds";exact q
end
section
variable {P:Program}{w:World}{K:PySem.W.Frag}{mg:Str->Option Value}{base:Heap}{f:Addr}{fd:FuncData}
def kvI(l:List (Int×Int)):List (Key×D):=l.map λq=>(Sum.inl q.1,.int q.2)
def zff(l:List (Int×Int))(c:Int):Option Int:=(l.find? λq=>decide (q.1=c)).map (·.2)
def zjd(l:List (Int×Int))(c v:Int):List (Int×Int):=if (l.any λq=>decide (q.1=c))=true then l.map (λq=>if q.1=c then (q.1,v) else q) else l ++ [(c,v)]
theorem zoe(l:List (Int×Int)):(kvI l).length=l.length:=by simp[kvI]
theorem zh0{x c:Int}:decide ((Sum.inl x:Key)=Sum.inl c)=decide (x=c):=by
 by_cases h:x=c
 ·subst h;simp
 ·rw[decide_eq_false h,decide_eq_false (λz=>h (Sum.inl.inj z))]
theorem zfg:∀(l:List (Int×Int)) (c:Int),xp (kvI l) (Sum.inl c)=(zff l c).map PyData.int
 |[],c=>rfl
 |q::l,c=>by
  have ih:=zfg l c;unfold xp zff kvI at ih ⊢;rw[List.map_cons,List.find?_cons,List.find?_cons];dsimp only;rw[zh0]
  by_cases h:q.1=c
  ·simp[h]
  ·simp only[h,decide_false];exact ih
theorem zof(l:List (Int×Int))(c:Int):((kvI l).any λkv=>decide (kv.1=(Sum.inl c:Key)))=l.any λq=>decide (q.1=c):=by
 unfold kvI;rw[List.any_map];congr 1
 funext q
 exact zh0
theorem zl3(l:List (Int×Int))(c v:Int):zau (kvI l) (Sum.inl c) (.int v)=kvI (zjd l c v):=by
 unfold zau zjd;rw[zof]
 split
 ·unfold kvI;rw[List.map_map,List.map_map];refine List.map_congr_left λq _=>?_;show(if (Sum.inl q.1:Key)=Sum.inl c then _ else _)=_;dsimp only[Function.comp]
  by_cases h:q.1=c
  ·rw[if_pos (by rw[h]),if_pos h]
  ·rw[if_neg (λz=>h (Sum.inl.inj z)),if_neg h]
 ·simp[kvI]
theorem zl4{l:List (Int×Int)}{c v:Int}:(c,v)∈zjd l c v:=by
 unfold zjd
 split
 ·next h=>
  rw[List.any_eq_true]at h;obtain⟨q,hq,e⟩:=h;have e':q.1=c:=by simpa using e
  exact List.mem_map.mpr ⟨q,hq,by rw[if_pos e',e']⟩
 ·exact List.mem_append_right _ List.mem_cons_self
theorem zfh:∀{l:List (Int×Int)}{c v:Int},zff l c=some v->(c,v)∈l
 |[],c,v,h=>by cases h
 |q::l,c,v,h=>by
  unfold zff at h;rw[List.find?_cons]at h
  by_cases z:q.1=c
  ·simp[z]at h;rw[<-z,<-h];exact List.mem_cons_self
  ·simp only[z,decide_false]at h;exact List.mem_cons_of_mem _ (zfh h)
theorem zh1:∀{l:List (Int×Int)},(l.map Prod.fst).Nodup->∀{x:Int×Int},x∈l->zff l x.1=some x.2
 |q::l,nd,x,h=>by
  rw[List.map_cons,List.nodup_cons]at nd;unfold zff;rw[List.find?_cons];rcases List.mem_cons.mp h with rfl|h
  ·simp
  ·have hne:q.1≠x.1:=λz=>nd.1 (z ▸ List.mem_map.mpr ⟨x,h,rfl⟩);simp only[hne,decide_false];exact zh1 nd.2 h
def pmx(l:List (Int×Int))(c v:Int):List (Int×Int):=zjd l c (max ((zff l c).getD 0) v)
def Rch(l:List (Int×Int))(k w:Int):Prop:=∃x∈l,x.1=k/\w<=x.2
theorem Rch.new{l:List (Int×Int)}{c v w:Int}(h:w<=v):Rch (pmx l c v) c w:=⟨_,zl4,rfl,by simp only[];omega⟩
structure Ent(b B:Int)(w:Int->Int)(l:List (Int×Int)):Prop where
 nd:(l.map Prod.fst).Nodup
 bd:∀x∈l,(0<=x.1/\x.1<=b)/\0<=x.2/\x.2+w x.1<=B
theorem Ent.len{b B:Int}{w:Int->Int}{l:List (Int×Int)}(h:Ent b B w l)(hb:0<=b):(l.length:Int)<=b+1:=by
 have:=nodup_len (b+1).toNat (l.map Prod.fst) h.nd λx hx=>by
  obtain⟨q,hq,rfl⟩:=List.mem_map.mp hx;have:=(h.bd q hq).1;omega
 rw[List.length_map]at this;omega
theorem Ent.nil{b B:Int}{w:Int->Int}:Ent b B w []:=⟨List.nodup_nil,λx hx=>(by cases hx)⟩
structure PuOk(a p b f:Int):Prop where
 a0:0<=a
 a1:a<=1000
 p0:1<=p
 p1:p<=1000
 b0:0<=b
 b1:b<=10000
 f0:0<=f
 f1:f<=b
def pu(a p b f:Int):D:=.tuple [.int a,.int p,.int b,.int f]
theorem zpc{a p b f:Int}(o:PuOk a p b f):∀i,0<=cP a b p f i/\cP a b p f i<=b
 |0=>⟨o.f0,o.f1⟩
 |i+1=>by
  have h:=o.a0;have h2:=o.b0;have h3:=Int.emod_nonneg (cP a b p f i) (show p≠0 by have:=o.p0;omega);show 0<=min _ _/\min _ _<=b;omega
def tL(a b p f:Int)(n:Nat):List Int:=(List.range n).map λi=>vP a b p i f
theorem zd7(a b p f:Int)(n:Nat):tL a b p f (n+1)=tL a b p f n ++ [vP a b p n f]:=by simp[tL,List.range_succ]
theorem zg0(a b p f:Int)(n:Nat):(tL a b p f n).length=n:=by simp[tL]
theorem zpd{a b p f:Int}{n i:Nat}(h:i<n):(tL a b p f n)[i]?=some (vP a b p i f):=by simp[tL,h]
def yy:DSp:=λws Q=>∃(a p b f x m:Int),ws = [.val (pu a p b f),.val (.int x),.val (.int m)]/\PuOk a p b f/\0<=x/\x<=10000/\0<=m/\m<=1000000000000/\Q (.val (.int (min (x+m * a) b)))
theorem zbx(B:Blt mg)(F:Fun K "coins_asked" "coins_asked" wv f fd):FnOk P w K mg base CX0 1 f fd ["purse", "coins", "many"] (zq K yy):=by
 refine F.dok zbs (λws Q h=>?_) (λcdv A outer s H ws Q E hr h=>?_)
 ·obtain⟨a,p,b,f,x,m,rfl,_⟩:=h;rfl
 obtain⟨a,p,b,f,x,m,rfl,o,hx,hx2,hm,hm2,q⟩:=h;simp only[pu];refine⟨_,(zf (zo (zy (zo2 rfl) rfl B.min boot_min (zm (DE.dv (ya yq (zc 1) (DE.dv (ya zeu (zc 2) (DE.dv (yc (zc 0) ze (λ_ _=>rfl))))))) (zm (DE.dv (yc (zc 0) ze (λ_ _=>rfl))) yb))))),?_⟩;walk_at "ds";have:=o.a0;have:=o.a1;refine⟨_,rfl,?_⟩;walk_at "ds";refine⟨.inl ⟨by omega,by omega⟩,_,rfl,?_⟩;walk_at "ds";exact q
def qp:DSp:=λws Q=>∃(a p b f:Int) (i l n:Nat),ws = [.vw ((tL a b p f (i+l+1)).map PyData.int),.val (.int i),.val (.int n)]/\PuOk a p b f/\i+l<=n/\n<=1000000000000/\0<l/\i+l<=1000/\cP a b p f i % p=cP a b p f (i+l) % p/\Q (.val (.int (vP a b p n f)))
theorem zby(B:Blt mg)(F:Fun K "going_round" "going_round" wx f fd):FnOk P w K mg base CX0 1 f fd ["totals", "begin", "n"] (zq K qp):=by
 refine F.dok sc_going_round (λws Q h=>?_) (λcdv A outer s H ws Q E hr h=>?_)
 ·obtain⟨a,p,b,f,i,l,n,rfl,_⟩:=h;rfl
 obtain⟨a,p,b,f,i,l,n,rfl,o,h1,h2,h3,h4,h5,q⟩:=h;refine⟨_,(za (vc (zy qf rfl B.divmod boot_divmod (zm (DE.dv (ya v6 (zc 2) (zc 1))) (zm (DE.dv (ya v6 (DE.dv (ya v6 (DE.dv (zy w4 rfl B.len PySem.boot_len (zm (zc 0) yb))) (DE.dv ze))) (zc 1))) yb))) (xk (n:=2) rfl (zr (zt (i:=3) sc_going_round.nd rfl (Or.inl rfl)) (zr (zt (i:=4) sc_going_round.nd rfl (Or.inl rfl)) y0)))) (zf (zo (ya yq (DE.dv (yc (zc 0) (ya yq (zc 1) (zc 4)) (λ_ _=>rfl))) (DE.dv (ya zeu (zc 3) (DE.dv (ya v6 (DE.dv (yc (zc 0) (zbj ze) (λ_ _=>rfl))) (DE.dv (yc (zc 0) (zn 1) (λ_ _=>rfl))))))))))),?_⟩;walk_at "ds";have el:((((tL a b p f (i+l+1)).map PyData.int).length:Nat):Int)-1-(i:Int)=(l:Int):=by rw[List.length_map,zg0];omega
 rw[el];have e1:(i:Int)+((n:Int)-i) % l=((i+(n-i) % l:Nat):Int):=by
  rw[Int.natCast_add,Int.natCast_emod,Int.natCast_sub (by omega)]
 have e2:((n:Int)-i) / l=(((n-i) / l:Nat):Int):=by rw[Int.natCast_ediv,Int.natCast_sub (by omega)]
 have hm:(n-i) % l<l:=Nat.mod_lt _ h3;have at1:∀k:Nat,k<i+l+1->atI ((tL a b p f (i+l+1)).map PyData.int) (k:Int)=some (.int (vP a b p k f)):=λk hk=>qv (by rw[List.getElem?_map,zpd hk];rfl);have at2:atI ((tL a b p f (i+l+1)).map PyData.int) (-1)=some (.int (vP a b p (i+l) f)):=by rw[zd7,List.map_append];exact zep _ _
 have bq:((n-i) / l:Nat)<=1000000000000:=Nat.le_trans (Nat.div_le_self _ _) (by omega);have G:=zty h5 (n:=n) (by omega) h3;generalize (n-i) / l=qq at bq e2 G;refine⟨⟨by omega,by omega⟩,_,by rw[e1];exact at1 _ (by omega),_,at2,_,at1 i (by omega),?_⟩;walk_at "ds";rw[e2];refine⟨.inl ⟨by omega,by omega⟩,?_⟩;rw[G];exact q
def sL(a b p f:Int)(n:Nat):List (Int×Int):=(List.range n).map λi=>(cP a b p f i % p,(i:Int))
theorem zog(a b p f:Int)(n:Nat):sL a b p f (n+1)=sL a b p f n ++ [(cP a b p f n % p,(n:Int))]:=by simp[sL,List.range_succ]
theorem ztz{a b p f:Int}{n:Nat}(hd:∀i i':Nat,i<i'->i' < n->cP a b p f i % p≠cP a b p f i' % p):((sL a b p f n).map Prod.fst).Nodup:=by
 unfold sL;rw[List.map_map];exact List.pairwise_map.mpr (List.Pairwise.imp_of_mem (λhx hy hlt=>hd _ _ hlt (List.mem_range.mp hy)) List.pairwise_lt_range)
theorem zh2(a b p c:Int):min (c % p+1 * a) b=stP a b p c:=by unfold stP;rw[Int.one_mul]
def xc:DSp:=λws Q=>∃(a p b f:Int) (n:Nat),ws = [.val (pu a p b f),.val (.int n)]/\PuOk a p b f/\n<=1000000000000/\Q (.val (.int (vP a b p n f)))
theorem zd8(B:Blt mg)(F:Fun K "most_paid" "most_paid" qi f fd)(C_coins_asked:Cal P w K mg base 1 "coins_asked" ["purse", "coins", "many"] (zq K yy))(C_going_round:Cal P w K mg base 1 "going_round" ["totals", "begin", "n"] (zq K qp)):FnOk P w K mg base CX0 2 f fd ["purse", "n"] (zq K xc):=by
 refine F.dok sc_most_paid (λws Q h=>?_) (λcdv A outer s H ws Q E hr h=>?_)
 ·obtain⟨a,p,b,f,n,rfl,_⟩:=h;rfl
 obtain⟨a,p,b,f,n,rfl,o,hn,q⟩:=h;simp only[pu];refine⟨_,(za (vc (zy qf rfl B.divmod boot_divmod (zm (DE.dv (yc (zc 0) ze (λ_ _=>rfl))) (zm (DE.dv (yc (zc 0) ze (λ_ _=>rfl))) yb))) (xk (n:=2) rfl (zr (zt (i:=2) sc_most_paid.nd rfl (Or.inl rfl)) (zr (zt (i:=3) sc_most_paid.nd rfl (Or.inl rfl)) y0)))) (za (zdr (i:=4) sc_most_paid.nd rfl (Or.inl rfl) (wm (zg (zn 2) yd))) (za (zll (i:=5) sc_most_paid.nd rfl (Or.inl rfl) (zn 3) ze) (za (zbo PassesOwn.never (yg zgd (DE.dv (zy w4 rfl B.len PySem.boot_len (zm (zc 4) yb))) (zc 1) (zx _)) (za (vc (zy qf rfl B.divmod boot_divmod (zm (DE.dv (zb C_coins_asked hr rfl (zd 0 (zd 3 (zu ze zh y7))))) (zm (DE.dv (yc (zc 0) ze (λ_ _=>rfl))) yb))) (xk (n:=2) rfl (zr (zt (i:=2) sc_most_paid.nd rfl (Or.inl rfl)) (zr (zt (i:=3) sc_most_paid.nd rfl (Or.inl rfl)) y0)))) (za (j7 4 (ya yq (DE.dv (yc (zc 4) (zbj ze) (λ_ _=>rfl))) (zc 2))) (za (yk (zrs 5 hr (zn 3)) (zf (zo (zb C_going_round hr rfl (zd 4 (zu (znw 5 hr (zn 3)) (zd 1 zh)))))) z9) (zf (zn2 5 hr (zn 3) (ya v6 (DE.dv (zy w4 rfl B.len PySem.boot_len (zm (zc 4) yb))) (DE.dv ze)))))))) (zf (zo (yc (zc 4) (zn 1) (λ_ _=>rfl)))))))),?_⟩;walk_at "ds";have:=o.p0;have:=o.p1;have:=o.f0;have:=o.f1;have:=o.b1;refine⟨_,rfl,_,rfl,⟨by omega,by omega⟩,?_⟩;walk_at "ds";refine j6 (λm σ=>∃(j:Nat) (u:Option W),σ = [some (.val (pu a p b f)),some (.val (.int n)),u,some (.val (.int (cP a b p f j % p))),some (.own (.lst ((tL a b p f (j+1)).map PyData.int))),some (.own (.dct (kvI (sL a b p f (j+1)))))]/\j<=n/\(∀i i':Nat,i<i'->i' < j+1->cP a b p f i % p≠cP a b p f i' % p)/\m=n-j) n ⟨0,_,rfl,Nat.zero_le _,λi i' h h'=>by omega,rfl⟩ ?_;rintro m σ N ⟨j,u,rfl,hj,hd,rfl⟩ k;have nd:=ztz hd;have md:∀i,0<=cP a b p f i % p/\cP a b p f i % p<p:=λi=>⟨Int.emod_nonneg _ (show p≠0 by omega),Int.emod_lt_of_pos _ (show 0<p by omega)⟩
 have lj:j<1000:=by
  have h1:=nodup_len p.toNat _ nd λx hx=>by
   obtain⟨y,hy,rfl⟩:=List.mem_map.mp hx;obtain⟨i,_,rfl⟩:=List.mem_map.mp hy;have:=md i;simp only[];omega
  rw[List.length_map,sL,List.length_map,List.length_range]at h1;omega
 walk_at "ds";rw[List.length_map,zg0,zoe];have at1:∀k:Nat,k<j+1->atI ((tL a b p f (j+1)).map PyData.int) (k:Int)=some (.int (vP a b p k f)):=λk hk=>qv (by rw[List.getElem?_map,zpd hk];rfl);have at2:atI ((tL a b p f (j+1)).map PyData.int) (-1)=some (.int (vP a b p j f)):=by rw[zd7,List.map_append];exact zep _ _
 by_cases c:((j+1:Nat):Int)<=(n:Int)
 ·rw[if_pos c];have:=md j;refine⟨a,p,b,f,_,1,rfl,o,by omega,by omega,by omega,by omega,?_⟩;simp only[pu];walk_at "ds";rw[zh2];have e1:stP a b p (cP a b p f j)=cP a b p f (j+1):=rfl;have ev:vP a b p j f+cP a b p f (j+1) / p=vP a b p (j+1) f:=(jt j f).symm;have et:(tL a b p f (j+1)).map PyData.int ++ [.int (vP a b p (j+1) f)]=(tL a b p f (j+1+1)).map PyData.int:=by rw[zd7 a b p f (j+1),List.map_append];rfl
  rw[e1];refine⟨_,rfl,⟨by omega,by omega⟩,?_⟩;walk_at "ds";refine⟨_,at2,?_⟩;walk_at "ds";rw[ev,et,zfg];refine⟨by omega,?_⟩
  cases hg:zff (sL a b p f (j+1)) (cP a b p f (j+1) % p) with
  |some v=>
   obtain⟨i,hi,ei⟩:=List.mem_map.mp (zfh hg);have hi':=List.mem_range.mp hi;obtain⟨ei1,ei2⟩:=Prod.mk.inj ei;simp only[Option.map_some,Option.isSome_some,id,if_true];refine⟨_,rfl,a,p,b,f,i,j+1-i,n,by rw[show i+(j+1-i)+1=j+1+1 by omega,<-ei2],o,by omega,hn,by omega,by omega,by rw[show i+(j+1-i)=j+1 by omega];exact ei1,q⟩
  |none=>
   simp only[Option.map_none,Option.isSome_none,id,Bool.false_eq_true,if_false];have hnot:∀i,i<j+1->cP a b p f i % p≠cP a b p f (j+1) % p:=λi hi z=>by
    have:=zh1 nd (x:=(cP a b p f i % p,(i:Int))) (List.mem_map.mpr ⟨i,List.mem_range.mpr hi,rfl⟩);rw[z,hg]at this
    cases this
   refine⟨by unfold sL;rw[List.length_map,List.length_range];omega,?_⟩;rw[List.length_map,zg0,zl3];refine k (n-(j+1)) _ (by omega) ⟨j+1,some (.val (.int (cP a b p f (j+1) / p))),?_,by omega,λi i' h1 h2=>?_,rfl⟩
   ·rw[zog a b p f (j+1)];unfold zjd;rw[if_neg ?_]
    ·rw[show((j+1+1:Nat):Int)-1=((j+1:Nat):Int) by omega];rfl
    ·rw[List.any_eq_true];rintro ⟨y,hy,ey⟩;obtain⟨i,hi,rfl⟩:=List.mem_map.mp hy;exact hnot i (List.mem_range.mp hi) (by simpa using ey)
   ·by_cases z:i'=j+1
    ·subst z;exact hnot i (by omega)
    ·exact hd i i' h1 (by omega)
 ·rw[if_neg c];exact⟨_,at1 n (by omega),q⟩
def zfi(a b f:Int):Int:=if 0<a then b else f
def vv:DSp:=λws Q=>∃(a p b f:Int) (n:Nat),ws = [.val (pu a p b f),.val (.int n)]/\PuOk a p b f/\n<=1000000000000/\Q (.val (.int (vP a b p n (zfi a b f))))
theorem zoh{a p b f:Int}(o:PuOk a p b f):PuOk a p b (zfi a b f):=⟨o.a0,o.a1,o.p0,o.p1,o.b0,o.b1,by have:=o.b0;have:=o.f0;unfold zfi;split <;> omega,by have:=o.f1;unfold zfi;split <;> omega⟩
theorem zay(B:Blt mg)(F:Fun K "most_between" "most_between" x4 f fd)(C_most_paid:Cal P w K mg base 2 "most_paid" ["purse", "n"] (zq K xc)):FnOk P w K mg base CX0 3 f fd ["purse", "n"] (zq K vv):=by
 refine F.dok sc_most_between (λws Q h=>?_) (λcdv A outer s H ws Q E hr h=>?_)
 ·obtain⟨a,p,b,f,n,rfl,_⟩:=h;rfl
 obtain⟨a,p,b,f,n,rfl,o,hn,q⟩:=h;simp only[pu];refine⟨_,(za (vc (zn 0) (xk (n:=4) rfl (zr (zt (i:=2) sc_most_between.nd rfl (Or.inl rfl)) (zr (zt (i:=3) sc_most_between.nd rfl (Or.inl rfl)) (zr (zt (i:=4) sc_most_between.nd rfl (Or.inl rfl)) (zr (zt (i:=5) sc_most_between.nd rfl (Or.inl rfl)) y0)))))) (za (yi (i:=6) sc_most_between.nd rfl (Or.inl rfl) (zkd (yg zet (zc 2) (DE.dv ze) (zx _)) (zn 4) (zn 5))) (zf (zo (zb C_most_paid hr rfl (zu (yw (zg (zn 2) (zg (zn 3) (zg (zn 4) (zg (zn 6) yd))))) (zd 1 zh) zj9)))))),?_⟩;walk_at "ds";have fo:=zoh o;unfold zfi at fo q
 by_cases c:0<a
 ·rw[if_pos c]at fo q;simp only[c,if_true];exact⟨a,p,b,b,n,rfl,fo,hn,q⟩
 ·rw[if_neg c]at fo q;simp only[c,if_false];exact⟨a,p,b,f,n,rfl,fo,hn,q⟩
end
section
variable {P:Program}{w:World}{K:PySem.W.Frag}{mg:Str->Option Value}{base:Heap}{f:Addr}{fd:FuncData}
def ke:DSp:=λws Q=>ws = [.pen]/\∀a p b f:Int,PuOk a p b f->Q (.val (pu a p b f))
theorem zcg(B:Blt mg)(F:Fun K "_law_purse" "_law_purse" vk f fd)(C__law_draw:Cal P w K mg base 2 "_law_draw" ["_law_pen", "_law_many"] (zq K y3)):FnOk P w K mg base CX0 3 f fd ["_law_pen"] (zq K ke):=by
 refine F.dok sc__law_purse (λws Q h=>?_) (λcdv A outer s H ws Q E hr h=>?_)
 ·obtain⟨rfl,_⟩:=h;rfl
 obtain⟨rfl,q⟩:=h;refine⟨_,(za (yi (i:=1) sc__law_purse.nd rfl (Or.inl rfl) (zb C__law_draw hr rfl (zd 0 (zu ze zh y7)))) (za (vc (yc (DE.dv (DF.de (wm (zg (yw (zg ze (zg ze (zg ze yd y7) y7) y7)) (zg (yw (zg ze (zg ze (zg ze yd y7) y7) y7)) (zg (yw (zg ze (zg ze (zg ze yd y7) y7) y7)) (zg (yw (zg ze (zg ze (zg ze yd y7) y7) y7)) yd zj9) zj9) zj9) zj9)))) (zn 1) (λ_ _=>rfl)) (xk (n:=3) rfl (zr (zt (i:=2) sc__law_purse.nd rfl (Or.inl rfl)) (zr (zt (i:=3) sc__law_purse.nd rfl (Or.inl rfl)) (zr (zt (i:=4) sc__law_purse.nd rfl (Or.inl rfl)) y0))))) (za (yi (i:=5) sc__law_purse.nd rfl (Or.inl rfl) (yw (zg (zb C__law_draw hr rfl (zd 0 (zd 2 zh))) (zg (ya yq (DE.dv ze) (DE.dv (zb C__law_draw hr rfl (zd 0 (zd 3 zh))))) (zg (zb C__law_draw hr rfl (zd 0 (zd 4 zh))) yd))))) (zf (zo (ya yq (zc 5) (DE.dv (yw (zg (yc (DE.dv (DF.de (wm (zg ze (zg (yc (zc 5) ze (λ_ _=>rfl)) (zg (zb C__law_draw hr rfl (zd 0 (zu (ya yq (DE.dv (yc (zc 5) ze (λ_ _=>rfl))) (DE.dv ze)) zh))) yd)) y7)))) (zb C__law_draw hr rfl (zd 0 (zu ze zh y7))) (λ_ _=>rfl)) yd))))))))),?_⟩;walk_at "ds";refine x0 (by first|decide|omega) (by first|decide|omega) λw lw hw=>?_;walk_at "ds";refine zo5 (by omega) (by simp only[List.length_cons,List.length_nil];omega) λd hd=>?_;have hd':∃x y z:Int,d=.tuple [.int x,.int y,.int z]/\1<=x/\x<=1001/\1<=y/\y<=1000/\1<=z/\z<=10001:=by
  simp only[List.mem_cons,List.not_mem_nil,or_false]at hd;rcases hd with rfl|rfl|rfl|rfl <;> exact⟨_,_,_,rfl,by decide,by decide,by decide,by decide,by decide,by decide⟩
 obtain⟨x,y,z,rfl,x1,x2,y1,y2,z1,z2⟩:=hd';walk_at "ds";refine x0 (by first|decide|omega) (by first|decide|omega) λa la ha=>?_;walk_at "ds";refine x0 (by first|decide|omega) (by first|decide|omega) λp lp hp=>?_;walk_at "ds";refine x0 (by first|decide|omega) (by first|decide|omega) λb lb hb=>?_;walk_at "ds";refine⟨_,rfl,_,rfl,?_⟩;walk_at "ds";refine x0 (by first|decide|omega) (by first|decide|omega) λg lg hg=>?_;walk_at "ds";refine x0 (by first|decide|omega) (by first|decide|omega) λi li hi=>?_;walk_at "ds";refine zo6 (ns:=[0,b,g]) (lo:=0) (hi:=b) (by omega) (by simp only[List.length_cons,List.length_nil];omega) (by intro z hz;simp only[List.mem_cons,List.not_mem_nil,or_false]at hz;omega) λf lf hf=>?_;walk_at "ds";exact q a (1+p) b f ⟨by omega,by omega,by omega,by omega,by omega,by omega,by omega,by omega⟩
def kg:DSp:=λws Q=>∃m:Int,ws = [.pen,.val (.int m)]/\0<=m/\m<=62/\∀a p b f:Int,PuOk a p b f->b<=m->a<=8->p<=9->Q (.val (pu a p b f))
theorem zch(B:Blt mg)(F:Fun K "_law_small" "_law_small" vm f fd)(C__law_draw:Cal P w K mg base 2 "_law_draw" ["_law_pen", "_law_many"] (zq K y3)):FnOk P w K mg base CX0 3 f fd ["_law_pen", "_law_most"] (zq K kg):=by
 refine F.dok sc__law_small (λws Q h=>?_) (λcdv A outer s H ws Q E hr h=>?_)
 ·obtain⟨m,rfl,_⟩:=h;rfl
 obtain⟨m,rfl,m0,m1,q⟩:=h;refine⟨_,(za (yi (i:=2) sc__law_small.nd rfl (Or.inl rfl) (zb C__law_draw hr rfl (zd 0 (zu (ya yq (zc 1) (DE.dv ze)) zh)))) (za (yi (i:=3) sc__law_small.nd rfl (Or.inl rfl) (yw (zg (zb C__law_draw hr rfl (zd 0 (zu ze zh y7))) (zg (ya yq (DE.dv ze) (DE.dv (zb C__law_draw hr rfl (zd 0 (zu ze zh y7))))) (zg (zn 2) yd))))) (zf (zo (ya yq (zc 3) (DE.dv (yw (zg (yc (DE.dv (DF.de (wm (zg ze (zg (zn 2) (zg (zb C__law_draw hr rfl (zd 0 (zu (ya yq (zc 2) (DE.dv ze)) zh))) yd)) y7)))) (zb C__law_draw hr rfl (zd 0 (zu ze zh y7))) (λ_ _=>rfl)) yd)))))))),?_⟩;walk_at "ds";refine x0 (by first|decide|omega) (by first|decide|omega) λb lb hb=>?_;walk_at "ds";refine x0 (by first|decide|omega) (by first|decide|omega) λa la ha=>?_;walk_at "ds";refine x0 (by first|decide|omega) (by first|decide|omega) λp lp hp=>?_;walk_at "ds";refine x0 (by first|decide|omega) (by first|decide|omega) λg lg hg=>?_;walk_at "ds";refine x0 (by first|decide|omega) (by first|decide|omega) λi li hi=>?_;walk_at "ds";refine zo6 (ns:=[0,b,g]) (lo:=0) (hi:=b) (by omega) (by simp only[List.length_cons,List.length_nil];omega) (by intro z hz;simp only[List.mem_cons,List.not_mem_nil,or_false]at hz;omega) λf lf hf=>?_;walk_at "ds";exact q a (1+p) b f ⟨by omega,by omega,by omega,by omega,by omega,by omega,by omega,by omega⟩ (by omega) (by omega) (by omega)
theorem zaq:(Str.ofString "a")=txL [97]:=by decide +kernel
theorem zbz:(Str.ofString "k")=txL [107]:=by decide +kernel
theorem zoi{l m:List Nat}(h:txL l=txL m):l=m:=by
 have:=congrArg (λx:Str=>x.cps.toList) h;simpa[txL]using this
theorem zfj(x y:Nat):(txL [x]=txL [y])=(x=y):=propext ⟨λh=>by simpa using zoi h,λh=>by rw[h]⟩
theorem zb0(l:List Nat):xl (txL l)=l.map λc=>PyData.str (txL [c]):=by unfold xl txL;simp
def Sg(l:List Nat):Prop:=∀x∈l,x=97\/x=107
theorem Sg.asc{l:List Nat}(h:Sg l):((txL l).cps.all λx=>decide (x<128))=true:=by
 rw[Array.all_eq_true'];intro x hx;rcases h x (by simpa[txL]using hx) with rfl|rfl <;> decide
def x6:DSp:=λws Q=>∃(a p b f x:Int),ws = [.val (pu a p b f),.val (.int x)]/\Q (.val (.bool (decide (p<=x))))
theorem zg1(B:Blt mg)(F:Fun K "can_pay" "can_pay" zah f fd):FnOk P w K mg base CX0 1 f fd ["purse", "coins"] (zq K x6):=by
 refine F.dok zgy (λws Q h=>?_) (λcdv A outer s H ws Q E hr h=>?_)
 ·obtain⟨a,p,b,f,x,rfl,_⟩:=h;rfl
 obtain⟨a,p,b,f,x,rfl,q⟩:=h;simp only[pu];refine⟨_,(zf (zo (wo zth (zc 1) (DE.dv (yc (zc 0) ze (λ_ _=>rfl))) (zx _)))),?_⟩;walk_at "ds";refine⟨_,rfl,?_⟩;walk_at "ds";exact q
def yf(a p b:Int)(x:Nat)(c:Int):Int:=if x=97 then min (c+1 * a) b else if p<=c then c-p else c
theorem zoj{a p b f:Int}(o:PuOk a p b f){x:Nat}{c:Int}(h:0<=c/\c<=b):0<=yf a p b x c/\yf a p b x c<=b:=by
 have:=o.a0;have:=o.p0;unfold yf
 split
 ·omega
 ·split <;> omega
def wg:DSp:=λws Q=>∃(a p b f c:Int) (x:Nat),ws = [.val (pu a p b f),.val (.int c),.val (.str (txL [x]))]/\PuOk a p b f/\0<=c/\c<=b/\Q (.val (.int (yf a p b x c)))
theorem zfk(B:Blt mg)(F:Fun K "coins_by" "coins_by" k8 f fd){t_ASK:Tok}(G_ASK:mg "ASK" = some (.str "a" t_ASK))(C_coins_asked:Cal P w K mg base 1 "coins_asked" ["purse", "coins", "many"] (zq K yy))(C_can_pay:Cal P w K mg base 1 "can_pay" ["purse", "coins"] (zq K x6)):FnOk P w K mg base CX0 2 f fd ["purse", "coins", "sign"] (zq K wg):=by
 refine F.dok zfb (λws Q h=>?_) (λcdv A outer s H ws Q E hr h=>?_)
 ·obtain⟨a,p,b,f,c,x,rfl,_⟩:=h;rfl
 obtain⟨a,p,b,f,c,x,rfl,o,h0,h1,q⟩:=h;refine⟨_,(za (yk (yg (ziv hr) (zc 2) (DE.dv (yh (d:=.str "a") (v:=.str "a") rfl G_ASK ⟨_,rfl⟩ (λ_=>.str))) (zx _)) (zf (zo (zb C_coins_asked hr rfl (zd 0 (zd 1 (zu ze zh y7)))))) z9) (za (yk (xi (DE.dv (zb C_can_pay hr rfl (zd 0 (zd 1 zh))))) (zf (zo (ya v6 (zc 1) (DE.dv (yc (zc 0) ze (λ_ _=>rfl)))))) z9) (zf (zo (zn 1))))),?_⟩;walk_at "ds";have:=o.b1;simp only[zaq,zfj];unfold yf at q
 by_cases z:x=97
 ·rw[if_pos z]at q ⊢;exact⟨a,p,b,f,c,1,rfl,o,h0,by omega,by omega,by omega,q⟩
 ·rw[if_neg z]at q ⊢;refine⟨a,p,b,f,c,rfl,?_⟩;simp only[pu];walk_at "ds"
  by_cases z2:p<=c
  ·simp only[z2,decide_true,if_true]at q ⊢;refine⟨_,rfl,?_⟩;walk_at "ds";exact q
  ·simp only[z2,decide_false,if_false]at q ⊢
   first
    |exact q
    |(simp only[Bool.false_eq_true,if_false];exact q)
def jc(a p b f c:Int):O:=.ins "Purse" [("purse",pu a p b f),("coins",.int c)]
def x8:wu:=λwp o wq Q=>∃a p b f:Int,wp = []/\o=.ins "Purse" []/\wq = [.val (pu a p b f)]/\Q .none (jc a p b f f)
theorem jd(B:Blt mg)(F:Fun K "__init__" "Purse.__init__" yj f fd){A_Purse:Addr}(I_Purse:zcc K mg "Purse" A_Purse ["purse", "coins"]):FnOk P w K mg base CX0 1 f fd ["self", "purse"] (kc K x8):=by
 refine F.dokG jb (λwp o wq Q h=>?_) (λcdv A outer s H a wp o wq Q E hr h=>?_)
 ·obtain⟨a,p,b,f,rfl,rfl,rfl,_⟩:=h;rfl
 obtain⟨a,p,b,f,rfl,rfl,rfl,q⟩:=h;have ne:¬ ((Str.ofString "purse")=(Str.ofString "coins")):=by decide +kernel
 simp only[pu]at q ⊢;refine⟨_,(zac (zbr (za5 0 I_Purse (.head _) (zn 1))) (jp (zbr (za5 0 I_Purse (.tail _ (.head _)) (yc (zc 1) ze (λ_ _=>rfl)))))),?_⟩;walk_at "ds";refine⟨by decide,_,rfl,by decide,_,rfl,?_⟩;rw[if_neg ne];exact q
theorem jv{x y:D}:List.lookup (Str.ofString "coins") [((Str.ofString "purse"),x),((Str.ofString "coins"),y)]=some y:=by
 rw[List.lookup_cons,show((Str.ofString "coins") ==(Str.ofString "purse"))=false by decide +kernel,List.lookup_cons,show((Str.ofString "coins") ==(Str.ofString "coins"))=true by decide +kernel]
theorem zb1{x:D}{r:List (Str×D)}:List.lookup (Str.ofString "purse") (((Str.ofString "purse"),x)::r)=some x:=by
 rw[List.lookup_cons,show((Str.ofString "purse") ==(Str.ofString "purse"))=true by decide +kernel]
theorem zd9{m:Str}{x y:D}(h1:(m ==(Str.ofString "purse"))=false)(h2:(m ==(Str.ofString "coins"))=false):List.lookup m [((Str.ofString "purse"),x),((Str.ofString "coins"),y)]=none:=by
 rw[List.lookup_cons,h1,List.lookup_cons,h2];rfl
def kh:wu:=λwp o wq Q=>∃a p b f c:Int,wp = []/\o=jc a p b f c/\wq = []/\PuOk a p b f/\0<=c/\c<=b/\Q .none (jc a p b f (yf a p b 97 c))
theorem zci(B:Blt mg)(F:Fun K "ask" "Purse.ask" y4 f fd){t_ASK:Tok}(G_ASK:mg "ASK" = some (.str "a" t_ASK)){A_Purse:Addr}(I_Purse:zcc K mg "Purse" A_Purse ["purse", "coins"])(C_coins_by:Cal P w K mg base 2 "coins_by" ["purse", "coins", "sign"] (zq K wg)):FnOk P w K mg base CX0 3 f fd ["self"] (kc K kh):=by
 refine F.dokG zcf (λwp o wq Q h=>?_) (λcdv A outer s H a wp o wq Q E hr h=>?_)
 ·obtain⟨a,p,b,f,c,rfl,rfl,rfl,_⟩:=h;rfl
 obtain⟨a,p,b,f,c,rfl,rfl,rfl,o,h0,h1,q⟩:=h;simp only[jc]at q ⊢;refine⟨_,(jp (zbr (za5 0 I_Purse (.tail _ (.head _)) (zb C_coins_by hr rfl (zu (vg 0 I_Purse (.head _)) (zu (vg 0 I_Purse (.tail _ (.head _))) (zu (yh (d:=.str "a") (v:=.str "a") rfl G_ASK ⟨_,rfl⟩ (λ_=>.str)) zh))))))),?_⟩;walk_at "ds";refine⟨_,zb1,_,jv,a,p,b,f,c,97,by rw[zaq],o,h0,h1,?_⟩;walk_at "ds";refine⟨by decide,_,rfl,?_⟩;rw[if_neg (by decide +kernel)];exact q
def vx:wu:=λwp o wq Q=>∃a p b f c:Int,wp = []/\o=jc a p b f c/\wq = []/\PuOk a p b f/\0<=c/\c<=b/\Q (.bool (decide (p<=c))) (jc a p b f (yf a p b 107 c))
theorem zaz(B:Blt mg)(F:Fun K "knock" "Purse.knock" yr f fd){t_KNOCK:Tok}(G_KNOCK:mg "KNOCK" = some (.str "k" t_KNOCK)){A_Purse:Addr}(I_Purse:zcc K mg "Purse" A_Purse ["purse", "coins"])(C_can_pay:Cal P w K mg base 1 "can_pay" ["purse", "coins"] (zq K x6))(C_coins_by:Cal P w K mg base 2 "coins_by" ["purse", "coins", "sign"] (zq K wg)):FnOk P w K mg base CX0 3 f fd ["self"] (kc K vx):=by
 refine F.dokG sc_Purse__knock (λwp o wq Q h=>?_) (λcdv A outer s H a wp o wq Q E hr h=>?_)
 ·obtain⟨a,p,b,f,c,rfl,rfl,rfl,_⟩:=h;rfl
 obtain⟨a,p,b,f,c,rfl,rfl,rfl,o,h0,h1,q⟩:=h;simp only[jc]at q ⊢;refine⟨_,(zac (zbr (yi (i:=1) sc_Purse__knock.nd rfl (Or.inl rfl) (zb C_can_pay hr rfl (zu (vg 0 I_Purse (.head _)) (zu (vg 0 I_Purse (.tail _ (.head _))) zh))))) (zac (zbr (za5 0 I_Purse (.tail _ (.head _)) (zb C_coins_by hr rfl (zu (vg 0 I_Purse (.head _)) (zu (vg 0 I_Purse (.tail _ (.head _))) (zu (yh (d:=.str "k") (v:=.str "k") rfl G_KNOCK ⟨_,rfl⟩ (λ_=>.str)) zh)))))) (jp (zhu (zn 1))))),?_⟩;walk_at "ds";refine⟨_,zb1,_,jv,a,p,b,f,c,rfl,?_⟩;walk_at "ds";refine⟨_,zb1,_,jv,a,p,b,f,c,107,by rw[zbz],o,h0,h1,?_⟩;walk_at "ds";refine⟨by decide,_,rfl,?_⟩;rw[if_neg (by decide +kernel)];exact q
def qt:wu:=λwp o wq Q=>∃a p b f c:Int,wp = []/\o=jc a p b f c/\wq = []/\Q (.int c) (jc a p b f c)
theorem zb2(B:Blt mg)(F:Fun K "held" "Purse.held" yt f fd){A_Purse:Addr}(I_Purse:zcc K mg "Purse" A_Purse ["purse", "coins"]):FnOk P w K mg base CX0 1 f fd ["self"] (kc K qt):=by
 refine F.dokG zbu (λwp o wq Q h=>?_) (λcdv A outer s H a wp o wq Q E hr h=>?_)
 ·obtain⟨a,p,b,f,c,rfl,rfl,rfl,_⟩:=h;rfl
 obtain⟨a,p,b,f,c,rfl,rfl,rfl,q⟩:=h;simp only[jc]at q ⊢;refine⟨_,(jp (zhu (vg 0 I_Purse (.tail _ (.head _))))),?_⟩;walk_at "ds";exact⟨_,jv,_,rfl,q⟩
def gn(a p b:Int):List Nat->Nat->Int->List Int->Int×List Int
 |[],_,c,u=>(c,u)
 |x::r,i,c,u=>gn a p b r (i+1) (yf a p b x c) (if x=97 then u else if p<=c then u else u ++ [(i:Int)])
def je:DSp:=λws Q=>∃(a p b f:Int) (l:List Nat),ws = [.val (pu a p b f),.val (.str (txL l))]/\PuOk a p b f/\Sg l/\l.length<=1000000/\Q (.val (.tuple [.int (gn a p b l 0 f []).1,.list ((gn a p b l 0 f []).2.map PyData.int)]))
theorem zg2(B:Blt mg)(F:Fun K "gone_by" "gone_by" zai f fd){t_ASK:Tok}(G_ASK:mg "ASK" = some (.str "a" t_ASK)){A_Purse:Addr}(I_Purse:zcc K mg "Purse" A_Purse ["purse", "coins"])(C_Purse____init__:MkC P w K mg base 1 A_Purse ["self", "purse"] x8)(C_Purse__ask:zgw P w K mg base 3 A_Purse "ask" ["self"] kh)(C_Purse__knock:zgw P w K mg base 3 A_Purse "knock" ["self"] vx)(C_Purse__held:zgw P w K mg base 1 A_Purse "held" ["self"] qt):FnOk P w K mg base CX0 4 f fd ["purse", "row"] (zq K je):=by
 refine F.dok sc_gone_by (λws Q h=>?_) (λcdv A outer s H ws Q E hr h=>?_)
 ·obtain⟨a,p,b,f,l,rfl,_⟩:=h;rfl
 obtain⟨a,p,b,f,l,rfl,o,sg,hl,q⟩:=h;refine⟨_,(za (zlt (j:=2) sc_gone_by.nd rfl (Or.inl rfl) I_Purse C_Purse____init__ hr rfl (zd 0 zh)) (za (zdr (i:=3) sc_gone_by.nd rfl (Or.inl rfl) (wm yd)) (za (zbp PassesOwn.never rfl (zlr rfl B.enumerate (zg (zn 1) yd)) (xk (n:=2) rfl (zr (zt (i:=4) sc_gone_by.nd rfl (Or.inl rfl)) (zr (zt (i:=5) sc_gone_by.nd rfl (Or.inl rfl)) y0))) (zf (yk (yg (ziv hr) (zc 5) (DE.dv (yh (d:=.str "a") (v:=.str "a") rfl G_ASK ⟨_,rfl⟩ (λ_=>.str))) (zx _)) (zf (zld (zag (i:=2) I_Purse C_Purse__ask hr))) (zf (zi7 (zag (i:=2) I_Purse C_Purse__knock hr) (zf (j7 3 (zn 4))) z9))))) (zf (zq6 3 (zls (zag (i:=2) I_Purse C_Purse__held hr) (zn 3))))))),?_⟩;refine qy (λσ=>σ = [some (.val (pu a p b f)),some (.val (.str (txL l))),some (.own (jc a p b f f)),none,none,none]) (λN hN=>?_) ?_
 ·walk_at "ds";refine⟨a,p,b,f,rfl,rfl,rfl,rfl,?_⟩;exact hN _ rfl
 rintro σ rfl;walk_at "ds";refine⟨sg.asc,?_⟩;rw[zb0];refine w5 (λds σ=>∃(m:List Nat) (i:Nat) (c:Int) (u:List Int) (u4 u5:Option W),ds=q9 i (m.map λc=>PyData.str (txL [c]))/\Sg m/\i+m.length=l.length/\u.length<=i/\(0<=c/\c<=b)/\gn a p b m i c u=gn a p b l 0 f []/\σ = [some (.val (pu a p b f)),some (.val (.str (txL l))),some (.own (jc a p b f c)),some (.own (.lst (u.map PyData.int))),u4,u5]) ?_ ?_ ⟨l,0,f,[],none,none,rfl,sg,by omega,by simp,⟨o.f0,o.f1⟩,rfl,rfl⟩
 ·rintro d ds σ N ⟨m,i,c,u,u4,u5,e,sm,hi,hu,hc,hg,rfl⟩ k
  cases m with
  |nil=>cases e
  |cons x m=>
   cases e;have next:=zoj o (x:=x) hc;rw[List.length_cons]at hi;have sm':Sg m:=λy hy=>sm y (List.mem_cons_of_mem _ hy);walk_at "ds";simp only[zaq,zfj]
   by_cases z:x=97
   ·subst z;rw[if_pos rfl];simp only[jc];walk_at "ds";refine⟨zd9 (by decide +kernel) (by decide +kernel),rfl,rfl,a,p,b,f,c,rfl,rfl,rfl,o,hc.1,hc.2,?_⟩;refine k _ ⟨m,i+1,_,u,_,_,rfl,sm',by omega,by omega,next,?_,rfl⟩;rw[<-hg];simp only[gn,if_true]
   ·rw[if_neg z];have x7:x=107:=(sm x List.mem_cons_self).resolve_left z;subst x7;simp only[jc];walk_at "ds";refine⟨zd9 (by decide +kernel) (by decide +kernel),rfl,rfl,a,p,b,f,c,rfl,rfl,rfl,o,hc.1,hc.2,?_⟩;walk_at "ds"
    by_cases z2:p<=c
    ·simp only[z2,decide_true,if_true];refine k _ ⟨m,i+1,_,u,_,_,rfl,sm',by omega,by omega,next,?_,rfl⟩;rw[<-hg];simp only[gn,z2,if_true,if_neg z]
    ·simp only[z2,decide_false,Bool.false_eq_true,if_false];refine⟨by rw[List.length_map];omega,k _ ⟨m,i+1,_,u ++ [(i:Int)],_,_,rfl,sm',by omega,by simp;omega,next,?_,(by rw[List.map_append];rfl)⟩⟩;rw[<-hg];simp only[gn,z2,if_false,if_neg z]
 ·rintro σ ⟨m,i,c,u,u4,u5,e,sm,hi,hu,hc,hg,rfl⟩
  cases m with
  |cons x m=>cases e
  |nil=>
   simp only[jc];walk_at "ds";refine⟨zd9 (by decide +kernel) (by decide +kernel),rfl,rfl,a,p,b,f,c,rfl,rfl,rfl,?_⟩;rw[<-hg]at q;exact q
def sgB(l:List Nat):Bool:=l.all λx=>decide (x=97) || decide (x=107)
theorem sgB_iff{l:List Nat}:sgB l=true↔Sg l:=by
 unfold sgB Sg;rw[List.all_eq_true];constructor
 ·intro h x hx;simpa using h x hx
 ·intro h x hx;simpa using h x hx
theorem zl5{x:Str}(h:(x.cps.all (· < 128))=true):Lay (.str x):=by
 unfold Lay SeqAt.shaped;have:PyData.strOk x=true:=by
  unfold PyData.strOk;rw[Array.all_eq_true']at h ⊢;intro c hc;have:=h c hc;simp at this ⊢;omega
 simp[PyData.canLay0,PyData.depth,this]
theorem zg3:Lay (.tuple [.str "a",.str "k"]):=show SeqAt.shaped _=true by decide +kernel
theorem zpe(x:Str):inD (.str x) [.str "a",.str "k"]=(decide (x=txL [97]) || decide (x=txL [107])):=by
 have e:∀y:Str,PyData.eqv (.str y) (.str x)=decide (x=y):=λy=>by
  simp only[PyData.eqv]
  by_cases h:x=y
  ·subst h;simp
  ·rw[decide_eq_false h];exact beq_eq_false_iff_ne.mpr (Ne.symm h)
 simp only[inD,List.any_cons,List.any_nil,Bool.or_false,e,zaq,zbz]
theorem zr0(i:Int):inD (.int i) [.str "a",.str "k"]=false:=by simp[inD,PyData.eqv]
def wz:DSp:=λws Q=>∃d:D,ws = [.val d]/\(∀x,d=.str x->(x.cps.all (· < 128))=true/\x.length<=1000000)/\Q (.val (.bool (match d with|.str x=>sgB x.cps.toList|_=>false)))
theorem zcj(B:Blt mg)(F:Fun K "signs_good" "signs_good" vi f fd){t_ASK:Tok}(G_ASK:mg "ASK" = some (.str "a" t_ASK)){t_KNOCK:Tok}(G_KNOCK:mg "KNOCK" = some (.str "k" t_KNOCK)):FnOk P w K mg base CX0 1 f fd ["thing"] (zq K wz):=by
 refine F.dok zce (λws Q h=>?_) (λcdv A outer s H ws Q E hr h=>?_)
 ·obtain⟨d,rfl,_⟩:=h;rfl
 obtain⟨d,rfl,hx,q⟩:=h;refine⟨_,(zf (zo (zbi (j5 (n := "str") ztp rfl B.isinstance boot_isinstance (zc 0) rfl B.strT boot_str) (zbh (zy (zkj rfl) rfl B.all boot_all (zm (DE.dv (DF.de (zew rfl (N':=["sign"]) (capt:=[]) (k:=1) (js:=[]) ⟨rfl,by decide,rfl,by decide,.nil,rfl,.nil,rfl,by decide⟩ (DI.w (zlf (zn 0))) (λ_ _ _ _=>(zt (i:=0) (show List.Nodup (["sign"]:List Str) by decide +kernel) rfl (Or.inl rfl) (Or.inr rfl))) (λ_ _ _ _=>ji) (λ_ _ _ _=>(wo (ztl hr) (zc 0) (DE.dv (yw (zg (yh (d:=.str "a") (v:=.str "a") rfl G_ASK ⟨_,rfl⟩ (λ_=>.str)) (zg (yh (d:=.str "k") (v:=.str "k") rfl G_KNOCK ⟨_,rfl⟩ (λ_=>.str)) yd)))) rfl))))) yb)))))),?_⟩
 cases d with
 |str x=>
  obtain⟨h1,h2⟩:=hx x rfl;walk_at "ds";refine⟨h1,by simp[xl,Str.length]at h2 ⊢;omega,?_⟩;unfold xl;refine jk (λc:Nat=>PyData.str ⟨#[c]⟩) (λc=>.bool (decide (c=97) || decide (c=107))) (λc hm K hK=>?_) ⟨x.cps.toList.map λc=>decide (c=97) || decide (c=107),?_,?_⟩
  ·walk_at "ds"
   have hc:c<128:=by
    rw[Array.all_eq_true']at h1;simpa using h1 c (by simpa using hm)
   refine⟨zl5 (by simpa using hc),zg3,?_⟩;rw[zpe,show(⟨#[c]⟩:Str)=txL [c] from rfl];simp only[zfj];exact hK
  ·have:=kr (x.cps.toList.map λc=>decide (c=97) || decide (c=107));rw[List.map_map]at this;exact this
  ·rw[List.all_map];exact q
 |_=>walk_at "ds";exact q
def x9:DSp:=λws Q=>∃(a p b f:Int) (l:List Nat),ws = [.val (pu a p b f),.val (.str (txL l))]/\PuOk a p b f/\Sg l/\l.length<=200/\Q (.val (.tuple [.int (gn a p b l 0 f []).1,.list ((gn a p b l 0 f []).2.map PyData.int)]))
theorem zb3(B:Blt mg)(F:Fun K "gone_by_row" "gone_by_row" ww f fd){t_MOST_DEEDS:Tok}(G_MOST_DEEDS:mg "MOST_DEEDS" = some (.int 200 t_MOST_DEEDS))(C_signs_good:Cal P w K mg base 1 "signs_good" ["thing"] (zq K wz))(C_gone_by:Cal P w K mg base 4 "gone_by" ["purse", "row"] (zq K je)):FnOk P w K mg base CX0 5 f fd ["purse", "row"] (zq K x9):=by
 refine F.dok zbt (λws Q h=>?_) (λcdv A outer s H ws Q E hr h=>?_)
 ·obtain⟨a,p,b,f,l,rfl,_⟩:=h;rfl
 obtain⟨a,p,b,f,l,rfl,o,sg,hl,q⟩:=h;refine⟨_,(za (yk (DWt.dt (v5 (xh (xi (DE.dv (zb C_signs_good hr rfl (zd 1 zh))))) (wn (yg zet (DE.dv (zy w4 rfl B.len PySem.boot_len (zm (zc 1) yb))) (DE.dv (yh (d:=.int 200) (v:=.int 200) rfl G_MOST_DEEDS ⟨_,rfl⟩ (λ_=>.int))) (zx _))))) (zf qb) z9) (zf (zo (zb C_gone_by hr rfl (zd 0 (zd 1 zh)))))),?_⟩;walk_at "ds";refine⟨_,rfl,λx e=>by cases e;exact⟨sg.asc,by rw[yn];omega⟩,?_⟩;have c:sgB (txL l).cps.toList=true:=sgB_iff.mpr (by simpa[txL]using sg);simp only[c];walk_at "ds";rw[yn];refine⟨by omega,?_⟩;rw[if_neg (by omega)];exact⟨a,p,b,f,l,rfl,o,sg,by omega,q⟩
def xt:DSp:=λws Q=>∃(a p b f:Int) (l:List Nat),ws = [.val (pu a p b f),.val (.str (txL l))]/\PuOk a p b f/\Sg l/\l.length<=200/\Q (.val (.int (gn a p b l 0 f []).1))
theorem za0(B:Blt mg)(F:Fun K "coins_behind" "coins_behind" x3 f fd)(C_gone_by_row:Cal P w K mg base 5 "gone_by_row" ["purse", "row"] (zq K x9)):FnOk P w K mg base CX0 6 f fd ["purse", "row"] (zq K xt):=by
 refine F.dok zav (λws Q h=>?_) (λcdv A outer s H ws Q E hr h=>?_)
 ·obtain⟨a,p,b,f,l,rfl,_⟩:=h;rfl
 obtain⟨a,p,b,f,l,rfl,o,sg,hl,q⟩:=h;refine⟨_,(zf (zo (yc (DE.dv (zb C_gone_by_row hr rfl (zd 0 (zd 1 zh)))) ze (λ_ _=>rfl)))),?_⟩;walk_at "ds";refine⟨a,p,b,f,l,rfl,o,sg,hl,?_⟩;walk_at "ds";exact⟨_,rfl,q⟩
def xf:DSp:=λws Q=>∃(a p b f:Int) (l:List Nat),ws = [.val (pu a p b f),.val (.str (txL l))]/\PuOk a p b f/\Sg l/\l.length<=200/\Q (.val (.list ((gn a p b l 0 f []).2.map PyData.int)))
theorem zea(B:Blt mg)(F:Fun K "unpaid_at" "unpaid_at" qh f fd)(C_gone_by_row:Cal P w K mg base 5 "gone_by_row" ["purse", "row"] (zq K x9)):FnOk P w K mg base CX0 6 f fd ["purse", "row"] (zq K xf):=by
 refine F.dok zdz (λws Q h=>?_) (λcdv A outer s H ws Q E hr h=>?_)
 ·obtain⟨a,p,b,f,l,rfl,_⟩:=h;rfl
 obtain⟨a,p,b,f,l,rfl,o,sg,hl,q⟩:=h;refine⟨_,(zf (zo (yc (DE.dv (zb C_gone_by_row hr rfl (zd 0 (zd 1 zh)))) ze (λ_ _=>rfl)))),?_⟩;walk_at "ds";refine⟨a,p,b,f,l,rfl,o,sg,hl,?_⟩;walk_at "ds";exact⟨_,rfl,q⟩
def vo:DSp:=λws Q=>∃(a p b f:Int) (l:List Nat),ws = [.val (pu a p b f),.val (.str (txL l))]/\PuOk a p b f/\Sg l/\l.length<=200/\Q (.val (.int ((l.count 107:Int)-((gn a p b l 0 f []).2.length:Int))))
theorem zg4(B:Blt mg)(F:Fun K "paid_in" "paid_in" zaj f fd){t_KNOCK:Tok}(G_KNOCK:mg "KNOCK" = some (.str "k" t_KNOCK))(C_unpaid_at:Cal P w K mg base 6 "unpaid_at" ["purse", "row"] (zq K xf)):FnOk P w K mg base CX0 7 f fd ["purse", "row"] (zq K vo):=by
 refine F.dok sc_paid_in (λws Q h=>?_) (λcdv A outer s H ws Q E hr h=>?_)
 ·obtain⟨a,p,b,f,l,rfl,_⟩:=h;rfl
 obtain⟨a,p,b,f,l,rfl,o,sg,hl,q⟩:=h;refine⟨_,(za (yi (i:=2) sc_paid_in.nd rfl (Or.inl rfl) (zb C_unpaid_at hr rfl (zd 0 (zd 1 zh)))) (zf (zo (ya v6 (DE.dv (kz PySem.F.slot_str_count PySem.F.type_str_count xx (λ_ _ _=>.int) (zn 1) (yh (d:=.str "k") (v:=.str "k") rfl G_KNOCK ⟨_,rfl⟩ (λ_=>.str)))) (DE.dv (zy w4 rfl B.len PySem.boot_len (zm (zc 2) yb))))))),?_⟩;walk_at "ds";refine⟨a,p,b,f,l,rfl,o,sg,hl,?_⟩;walk_at "ds";rw[zbz,zaf,List.length_map];exact q
def zck:D->Bool
 |.tuple [.str x,.int n]=>(decide (x=txL [97]) || decide (x=txL [107])) && decide (0<=n/\n<=1000000000000)
 |_=>false
def lrB:D->Bool
 |.tuple xs=>decide (xs.length<=20) && xs.all zck
 |_=>false
def E2(x:D):Prop:=∀y z,x=.tuple [y,z]->(∃i,y=.int i)\/∃t,y=.str t/\(t.cps.all (· < 128))=true
def wa:DSp:=λws Q=>∃d:D,ws = [.val d]/\E2 d/\Q (.val (.bool (zck d)))
theorem jf(B:Blt mg)(F:Fun K "many_deeds_good" "many_deeds_good" xa f fd){t_MOST_MANY:Tok}(G_MOST_MANY:mg "MOST_MANY" = some (.int 1000000000000 t_MOST_MANY)){t_ASK:Tok}(G_ASK:mg "ASK" = some (.str "a" t_ASK)){t_KNOCK:Tok}(G_KNOCK:mg "KNOCK" = some (.str "k" t_KNOCK))(C_whole_in:Cal P w K mg base 2 "whole_in" ["thing", "least", "most"] (zq K wf)):FnOk P w K mg base CX0 3 f fd ["thing"] (zq K wa):=by
 refine F.dok k9 (λws Q h=>?_) (λcdv A outer s H ws Q E hr h=>?_)
 ·obtain⟨d,rfl,_⟩:=h;rfl
 obtain⟨d,rfl,he,q⟩:=h;refine⟨_,(za (yk (DWt.dt (v5 (xh (xi (DE.dv (j5 (n := "tuple") zdk rfl B.isinstance boot_isinstance (zc 0) rfl B.tupleT boot_tuple)))) (wn (yg (zbk hr) (DE.dv (zy w4 rfl B.len PySem.boot_len (zm (zc 0) yb))) (DE.dv ze) (zx _))))) (zf (zo y6)) z9) (zf (zo (zbi (wo (ztl hr) (DE.dv (yc (zc 0) ze (λ_ _=>rfl))) (DE.dv (yw (zg (yh (d:=.str "a") (v:=.str "a") rfl G_ASK ⟨_,rfl⟩ (λ_=>.str)) (zg (yh (d:=.str "k") (v:=.str "k") rfl G_KNOCK ⟨_,rfl⟩ (λ_=>.str)) yd)))) rfl) (zbh (zb C_whole_in hr rfl (zu (yc (zc 0) ze (λ_ _=>rfl)) (zu ze (zu (yh (d:=.int 1000000000000) (v:=.int 1000000000000) rfl G_MOST_MANY ⟨_,rfl⟩ (λ_=>.int)) zh) y7)))))))),?_⟩
 cases d with
 |tuple xs=>
  walk_at "ds"
  match xs,he,q with
  |[y,z],he,q=>
   walk_at "ds";refine⟨_,rfl,?_⟩;walk_at "ds";rcases he y z rfl with⟨i,rfl⟩ |⟨t,rfl,ht⟩
   ·rw[zr0];refine⟨by unfold Lay;rfl,zg3,?_⟩;simp only[Bool.false_eq_true,if_false];exact q
   ·rw[zpe];refine⟨zl5 ht,zg3,?_⟩
    by_cases c:(decide (t=txL [97]) || decide (t=txL [107]))=true
    ·rw[if_pos c];refine⟨_,rfl,z,0,1000000000000,rfl,?_⟩
     cases z with
     |int n=>simpa[zck,inB,c]using q
     |_=>exact q
    ·rw[if_neg c]
     cases z with
     |int n=>simpa[zck,c]using q
     |_=>exact q
  |[],he,q=>walk_at "ds";exact q
  |[y],he,q=>walk_at "ds";simpa[zck]using q
  |y::z::w::r,he,q=>
   walk_at "ds";rw[if_pos (by simp;omega)];simpa[zck]using q
 |_=>walk_at "ds";exact q
def w6:DSp:=λws Q=>∃d:D,ws = [.val d]/\(∀xs,d=.tuple xs->∀x∈xs,E2 x)/\Q (.val (.bool (lrB d)))
theorem zal(B:Blt mg)(F:Fun K "long_row_good" "long_row_good" xr f fd){t_MOST_TUPLES:Tok}(G_MOST_TUPLES:mg "MOST_TUPLES" = some (.int 20 t_MOST_TUPLES))(C_many_deeds_good:Cal P w K mg base 3 "many_deeds_good" ["thing"] (zq K wa)):FnOk P w K mg base CX0 4 f fd ["thing"] (zq K w6):=by
 refine F.dok zak (λws Q h=>?_) (λcdv A outer s H ws Q E hr h=>?_)
 ·obtain⟨d,rfl,_⟩:=h;rfl
 obtain⟨d,rfl,he,q⟩:=h;refine⟨_,(za (yk (DWt.dt (v5 (xh (xi (DE.dv (j5 (n := "tuple") zdk rfl B.isinstance boot_isinstance (zc 0) rfl B.tupleT boot_tuple)))) (wn (yg zet (DE.dv (zy w4 rfl B.len PySem.boot_len (zm (zc 0) yb))) (DE.dv (yh (d:=.int 20) (v:=.int 20) rfl G_MOST_TUPLES ⟨_,rfl⟩ (λ_=>.int))) (zx _))))) (zf (zo y6)) z9) (zf (zo (zy (zkj rfl) rfl B.all boot_all (zm (DE.dv (DF.de (zew rfl (N':=["deeds"]) (capt:=[]) (k:=1) (js:=[]) ⟨rfl,by decide,rfl,by decide,.nil,rfl,.nil,rfl,by decide⟩ (zne (zc 0)) (λ_ _ _ _=>(zt (i:=0) (show List.Nodup (["deeds"]:List Str) by decide +kernel) rfl (Or.inl rfl) (Or.inr rfl))) (λ_ _ _ _=>ji) (λ_ _ _ _=>(zb C_many_deeds_good hr rfl (zd 0 zh)))))) yb))))),?_⟩
 cases d with
 |tuple xs=>
  walk_at "ds";simp only[lrB]at q
  by_cases c:20<(xs.length:Int)
  ·rw[if_pos c];rw[decide_eq_false (by omega),Bool.false_and]at q;exact q
  ·rw[if_neg c];rw[decide_eq_true (by omega),Bool.true_and]at q;refine⟨by omega,?_⟩;have e0:xs=xs.map id:=by simp
   rw[e0];refine jk id (λx=>.bool (zck x)) (λx hx K hK=>?_) ⟨xs.map zck,?_,?_⟩
   ·walk_at "ds";exact⟨x,rfl,he xs rfl x hx,hK⟩
   ·have:=kr (xs.map zck);rw[List.map_map]at this;exact this
   ·rw[List.all_map];exact q
 |_=>walk_at "ds";exact q
def sgT(s:Bool):Nat:=if s then 97 else 107
def rwD(r:Bool×Int):D:=.tuple [.str (txL [sgT r.1]),.int r.2]
def zcl(a p b:Int):List (Bool×Int)->Int->Int->Int×Int
 |[],c,n=>(c,n)
 |(true,m)::r,c,n=>zcl a p b r (min (c+m * a) b) n
 |(false,m)::r,c,n=>zcl a p b r (c-min m (c / p) * p) (n+min m (c / p))
theorem zr5{p b c m:Int}(hp:1<=p)(hm:0<=m)(hc:0<=c/\c<=b):0<=c-min m (c / p) * p/\c-min m (c / p) * p<=b/\0<=min m (c / p)/\min m (c / p)<=c:=by
 have h1:=Int.ediv_nonneg hc.1 (show 0<=p by omega);have h2:=Int.ediv_le_self p hc.1;have h3:=Int.mul_le_of_le_ediv (show 0<p by omega) (show min m (c / p)<=c / p by omega);have h4:0<=min m (c / p) * p:=Int.mul_nonneg (by omega) (by omega);omega
theorem zt0(r:Bool×Int):E2 (rwD r):=λy z e=>by
 cases e;refine .inr ⟨_,rfl,?_⟩
 cases r.1 <;> decide +kernel
theorem zok{rs:List (Bool×Int)}(h:∀r∈rs,0<=r.2/\r.2<=1000000000000)(hl:rs.length<=20):lrB (.tuple (rs.map rwD))=true:=by
 simp only[lrB,Bool.and_eq_true,decide_eq_true_eq];refine⟨by rw[List.length_map];exact hl,?_⟩;rw[List.all_eq_true];intro x hx;obtain⟨r,hr,rfl⟩:=List.mem_map.mp hx;have:=h r hr;obtain⟨s,m⟩:=r;simp only[rwD,zck]
 cases s <;> simp[sgT,zfj] <;> exact this
def ki:DSp:=λws Q=>∃(a p b f:Int) (rs:List (Bool×Int)),ws = [.val (pu a p b f),.val (.tuple (rs.map rwD))]/\PuOk a p b f/\(∀r∈rs,0<=r.2/\r.2<=1000000000000)/\rs.length<=20/\Q (.val (.tuple [.int (zcl a p b rs f 0).1,.int (zcl a p b rs f 0).2]))
theorem zcm(B:Blt mg)(F:Fun K "far_behind" "far_behind" vj f fd){t_ASK:Tok}(G_ASK:mg "ASK" = some (.str "a" t_ASK))(C_coins_asked:Cal P w K mg base 1 "coins_asked" ["purse", "coins", "many"] (zq K yy))(C_long_row_good:Cal P w K mg base 4 "long_row_good" ["thing"] (zq K w6)):FnOk P w K mg base CX0 5 f fd ["purse", "row"] (zq K ki):=by
 refine F.dok sc_far_behind (λws Q h=>?_) (λcdv A outer s H ws Q E hr h=>?_)
 ·obtain⟨a,p,b,f,rs,rfl,_⟩:=h;rfl
 obtain⟨a,p,b,f,rs,rfl,o,hrs,hl,q⟩:=h;refine⟨_,(za (yk (xh (xi (DE.dv (zb C_long_row_good hr rfl (zd 1 zh))))) (zf qb) z9) (za (yi (i:=2) sc_far_behind.nd rfl (Or.inl rfl) (yc (zc 0) ze (λ_ _=>rfl))) (za (yi (i:=3) sc_far_behind.nd rfl (Or.inl rfl) ze) (za (zbp PassesOwn.never rfl (zdo (zn 1)) (xk (n:=2) rfl (zr (zt (i:=4) sc_far_behind.nd rfl (Or.inl rfl)) (zr (zt (i:=5) sc_far_behind.nd rfl (Or.inl rfl)) y0))) (zf (yk (yg (ziv hr) (zc 4) (DE.dv (yh (d:=.str "a") (v:=.str "a") rfl G_ASK ⟨_,rfl⟩ (λ_=>.str))) (zx _)) (zf (yi (i:=2) sc_far_behind.nd rfl (Or.inl rfl) (zb C_coins_asked hr rfl (zd 0 (zd 2 (zd 5 zh)))))) (za (yi (i:=6) sc_far_behind.nd rfl (Or.inl rfl) (zy (zo2 rfl) rfl B.min boot_min (zm (zc 5) (zm (DE.dv (ya zkg (zc 2) (DE.dv (yc (zc 0) ze (λ_ _=>rfl))))) yb)))) (za (zgm zpr (i:=2) sc_far_behind.nd rfl (Or.inl rfl) (ya zeu (zc 6) (DE.dv (yc (zc 0) ze (λ_ _=>rfl))))) (zf (zgm zjl (i:=3) sc_far_behind.nd rfl (Or.inl rfl) (zn 6)))))))) (zf (zo (yw (zg (zn 2) (zg (zn 3) yd))))))))),?_⟩;walk_at "ds";refine⟨_,rfl,λxs e x hx=>?_,?_⟩
 ·cases e;obtain⟨r,_,rfl⟩:=List.mem_map.mp hx;exact zt0 r
 have c:=zok hrs hl;simp only[c];walk_at "ds";simp only[pu];walk_at "ds";refine⟨_,rfl,?_⟩;refine w5 (λds σ=>∃(m:List (Bool×Int)) (c n:Int) (u4 u5 u6:Option W),ds=m.map rwD/\(∀r∈m,0<=r.2/\r.2<=1000000000000)/\(0<=c/\c<=b)/\zcl a p b m c n=zcl a p b rs f 0/\σ = [some (.val (pu a p b f)),some (.val (.tuple (rs.map rwD))),some (.val (.int c)),some (.val (.int n)),u4,u5,u6]) ?_ ?_ ⟨rs,f,0,none,none,none,rfl,hrs,⟨o.f0,o.f1⟩,rfl,rfl⟩
 ·rintro d ds σ N ⟨m,c,n,u4,u5,u6,e,hm,hc,hg,rfl⟩ k
  cases m with
  |nil=>cases e
  |cons r m=>
   cases e;obtain⟨s,v⟩:=r;have hv:=hm _ List.mem_cons_self;have:=o.b1;have:=o.b0;have:=o.p0;have:=o.p1;have:=o.a0;have:=o.a1;simp only[rwD];walk_at "ds";simp only[zaq,zfj]
   cases s with
   |true=>
    rw[if_pos (show sgT true=97 from rfl)];refine⟨a,p,b,f,c,v,rfl,o,by omega,by omega,hv.1,hv.2,?_⟩;have hn:0<=v * a:=Int.mul_nonneg hv.1 (by omega);exact k _ ⟨m,_,n,_,_,_,rfl,λy hy=>hm y (List.mem_cons_of_mem _ hy),by omega,hg,rfl⟩
   |false=>
    rw[if_neg (show ¬ sgT false=97 by decide)];simp only[pu];walk_at "ds";have pb:=zr5 o.p0 hv.1 hc;refine⟨_,rfl,⟨by omega,by omega⟩,?_⟩;walk_at "ds";refine⟨_,rfl,.inr ⟨by omega,by omega⟩,?_⟩;walk_at "ds";exact k _ ⟨m,_,_,_,_,_,rfl,λy hy=>hm y (List.mem_cons_of_mem _ hy),⟨pb.1,pb.2.1⟩,hg,rfl⟩
 ·rintro σ ⟨m,c,n,u4,u5,u6,e,hm,hc,hg,rfl⟩
  cases m with
  |cons r m=>cases e
  |nil=>
   walk_at "ds";rw[<-hg]at q;exact q
end
section
variable {P:Program}{w:World}{K:PySem.W.Frag}{mg:Str->Option Value}{base:Heap}{f:Addr}{fd:FuncData}
def vy(a b p:Int):Nat->Int->List Nat
 |0,c=>List.replicate (c / p).toNat 107
 |m+1,c=>List.replicate (c / p).toNat 107++97::vy a b p m (stP a b p c)
section
variable {a b p:Int}
theorem zje:∀(m:Nat) (c:Int),vy a b p (m+1) c=vy a b p m c++97::List.replicate (cP a b p c (m+1) / p).toNat 107:=by
 intro m
 induction m with
 |zero=>intro c;rfl
 |succ m ih=>
  intro c;show List.replicate (c / p).toNat 107++97::vy a b p (m+1) (stP a b p c)=(List.replicate (c / p).toNat 107++97::vy a b p m (stP a b p c))++_;rw[ih,zbw];simp
theorem zg5:∀(m:Nat) (c:Int),(vy a b p m c).count 97=m:=by
 intro m
 induction m with
 |zero=>intro c;simp[vy,List.count_replicate]
 |succ m ih=>intro c;simp[vy,List.count_replicate,ih]
theorem zg6(hp:0<p)(ha:0<=a)(hb:0<=b)(c:Int):0<=stP a b p c:=by
 have:=Int.emod_nonneg c (show p≠0 by omega);unfold stP;omega
theorem zl6(hp:0<p)(ha:0<=a)(hb:0<=b):∀(m:Nat) (c:Int),0<=c->((vy a b p m c).count 107:Int)=vP a b p m c:=by
 intro m
 induction m with
 |zero=>
  intro c hc;have:=Int.ediv_nonneg hc (show 0<=p by omega);simp[vy,List.count_replicate,vP];omega
 |succ m ih=>
  intro c hc;have:=Int.ediv_nonneg hc (show 0<=p by omega);have:=ih _ (zg6 hp ha hb c);simp[vy,List.count_replicate,vP];omega
theorem zfl:∀(m:Nat) (c:Int),∀x∈vy a b p m c,x=97\/x=107:=by
 intro m
 induction m with
 |zero=>intro c x hx;exact .inr (List.mem_replicate.mp hx).2
 |succ m ih=>
  intro c x hx;rcases List.mem_append.mp hx with h|h
  ·exact .inr (List.mem_replicate.mp h).2
  ·rcases List.mem_cons.mp h with h|h
   ·exact .inl h
   ·exact ih _ x h
theorem zeb:∀l:List Nat,(∀x∈l,x=97\/x=107)->l.length=l.count 97+l.count 107
 |[],_=>rfl
 |x::l,h=>by
  have ih:=zeb l λy hy=>h y (List.mem_cons_of_mem _ hy);rcases h x List.mem_cons_self with rfl|rfl
  ·simp;omega
  ·simp;omega
def zl7(a b p:Int):List Nat->Int->Prop
 |[],c=>0<=c
 |x::r,c=>0<=c/\zl7 a b p r (if x=97 then min b (c+a) else c-p)
theorem zfm(hp:0<p){r:List Nat}:∀(k:Nat) (c:Int),(k:Int)<=c / p->0<=c->zl7 a b p r (c-k * p)->zl7 a b p (List.replicate k 107++r) c:=by
 intro k
 induction k with
 |zero=>intro c _ _ h;simpa using h
 |succ k ih=>
  intro c h1 h2 h;rw[List.replicate_succ,List.cons_append];refine⟨h2,?_⟩;rw[if_neg (by decide)];have h3:(c-p) / p=c / p-1:=by
   have:=Int.add_mul_ediv_right c (-1) (show p≠0 by omega);rw[show c + -1 * p=c-p by omega]at this;omega
  have h4:p<=c:=by
   have:=Int.mul_le_of_le_ediv hp (show(1:Int)<=c / p by omega);omega
  refine ih (c-p) (by omega) (by omega) ?_;rw[show c-p-(k:Int) * p=c-((k+1:Nat):Int) * p by rw[Int.natCast_add,Int.add_mul];omega];exact h
theorem zl8(hp:0<p)(ha:0<=a)(hb:0<=b):∀(m:Nat) (c:Int),0<=c->zl7 a b p (vy a b p m c) c:=by
 have key:∀c:Int,0<=c->c-((c / p).toNat:Int) * p=c % p:=λc hc=>by
  have h1:=Int.ediv_nonneg hc (show 0<=p by omega);have h2:=Int.emod_add_mul_ediv c p;rw[Int.toNat_of_nonneg h1,Int.mul_comm];omega
 intro m
 induction m with
 |zero=>
  intro c hc;have h1:=Int.ediv_nonneg hc (show 0<=p by omega);have:=zfm (a:=a) (b:=b) (r:=[]) hp (c / p).toNat c (by omega) hc (by rw[key c hc];exact Int.emod_nonneg c (by omega));simpa[vy]using this
 |succ m ih=>
  intro c hc;have h1:=Int.ediv_nonneg hc (show 0<=p by omega);refine zfm hp _ c (by omega) hc ?_;rw[key c hc];refine⟨Int.emod_nonneg c (by omega),?_⟩;rw[if_pos rfl,Int.min_comm];exact ih _ (zg6 hp ha hb c)
theorem zg7{p:Int}(hp:0<p)(ha:0<=a)(hb:0<=b){c:Int}(hc:0<=c):∀i k:Nat,vP a b p i c<=vP a b p (i+k) c:=by
 have nn:∀i,0<=cP a b p c i:=λi=>by
  cases i with
  |zero=>exact hc
  |succ i=>exact zg6 hp ha hb _
 intro i k
 induction k with
 |zero=>exact Int.le_refl _
 |succ k ih=>
  have:=jt (a:=a) (b:=b) (p:=p) (i+k) c;have h:=Int.ediv_nonneg (nn (i+k+1)) (show 0<=p by omega);rw[show i+(k+1)=i+k+1 by omega];omega
end
def zar:DSp:=λws Q=>∃(a p b f:Int) (n:Nat),ws = [.val (pu a p b f),.val (.int n)]/\PuOk a p b f/\n<=40/\(n:Int)+vP a b p n f<=200/\Q (.val (.str (txL (vy a b p n f))))
theorem zfn(B:Blt mg)(F:Fun K "best_row" "best_row" ja f fd){t_MOST_DEEDS:Tok}(G_MOST_DEEDS:mg "MOST_DEEDS" = some (.int 200 t_MOST_DEEDS)){t_KNOCK:Tok}(G_KNOCK:mg "KNOCK" = some (.str "k" t_KNOCK)){t_ASK:Tok}(G_ASK:mg "ASK" = some (.str "a" t_ASK))(C_coins_asked:Cal P w K mg base 1 "coins_asked" ["purse", "coins", "many"] (zq K yy))(C_most_paid:Cal P w K mg base 2 "most_paid" ["purse", "n"] (zq K xc)):FnOk P w K mg base CX0 3 f fd ["purse", "n"] (zq K zar):=by
 refine F.dok sc_best_row (λws Q h=>?_) (λcdv A outer s H ws Q E hr h=>?_)
 ·obtain⟨a,p,b,f,n,rfl,_⟩:=h;rfl
 obtain⟨a,p,b,f,n,rfl,o,hn,c,q2⟩:=h;simp only[pu];refine⟨_,(za (yi (i:=2) sc_best_row.nd rfl (Or.inl rfl) (ya yq (zc 1) (DE.dv (zb C_most_paid hr rfl (zd 0 (zd 1 zh)))))) (za (yk (yg zet (zc 2) (DE.dv (yh (d:=.int 200) (v:=.int 200) rfl G_MOST_DEEDS ⟨_,rfl⟩ (λ_=>.int))) (zx _)) (zf qb) z9) (za (vc (zy qf rfl B.divmod boot_divmod (zm (DE.dv (yc (zc 0) ze (λ_ _=>rfl))) (zm (DE.dv (yc (zc 0) ze (λ_ _=>rfl))) yb))) (xk (n:=2) rfl (zr (zt (i:=3) sc_best_row.nd rfl (Or.inl rfl)) (zr (zt (i:=4) sc_best_row.nd rfl (Or.inl rfl)) y0)))) (za (yi (i:=5) sc_best_row.nd rfl (Or.inl rfl) (ya zln (DE.dv (yh (d:=.str "k") (v:=.str "k") rfl G_KNOCK ⟨_,rfl⟩ (λ_=>.str))) (zc 3))) (za (zbo PassesOwn.never (yg zm8 (DE.dv (kz PySem.F.slot_str_count PySem.F.type_str_count xx (λ_ _ _=>.int) (zn 5) (yh (d:=.str "a") (v:=.str "a") rfl G_ASK ⟨_,rfl⟩ (λ_=>.str)))) (zc 1) (zx _)) (za (vc (zy qf rfl B.divmod boot_divmod (zm (DE.dv (zb C_coins_asked hr rfl (zd 0 (zd 4 (zu ze zh y7))))) (zm (DE.dv (yc (zc 0) ze (λ_ _=>rfl))) yb))) (xk (n:=2) rfl (zr (zt (i:=3) sc_best_row.nd rfl (Or.inl rfl)) (zr (zt (i:=4) sc_best_row.nd rfl (Or.inl rfl)) y0)))) (zf (zn4 (i:=5) sc_best_row.nd rfl (Or.inl rfl) (ya yq (DE.dv (yh (d:=.str "a") (v:=.str "a") rfl G_ASK ⟨_,rfl⟩ (λ_=>.str))) (DE.dv (ya zln (DE.dv (yh (d:=.str "k") (v:=.str "k") rfl G_KNOCK ⟨_,rfl⟩ (λ_=>.str))) (zc 3)))))))) (zf (zo (zn 5)))))))),?_⟩;walk_at "ds";have hp:0<p:=by have:=o.p0;omega
 have:=o.p1;have:=o.f0;have:=o.f1;have:=o.b1;have:=o.b0;have:=o.a0;have md:∀i,0<=cP a b p f i % p/\cP a b p f i % p<p:=λi=>⟨Int.emod_nonneg _ (show p≠0 by omega),Int.emod_lt_of_pos _ hp⟩
 have dv:∀i,0<=cP a b p f i / p/\cP a b p f i / p<=10000:=λi=>by
  have h:=zpc o i;have h1:=Int.ediv_nonneg h.1 (show 0<=p by omega);have h2:=Int.ediv_le_self p h.1;omega
 refine⟨a,p,b,f,n,rfl,o,by omega,?_⟩;walk_at "ds";rw[if_neg (by omega)];refine⟨_,rfl,_,rfl,⟨by omega,by omega⟩,?_⟩;walk_at "ds";have ka:(Str.ofString "a")=txL [97]:=by decide +kernel
 have kk:(Str.ofString "k")=txL [107]:=by decide +kernel
 have d0:=dv 0;simp only[kk,ka];have e0:cP a b p f 0=f:=rfl;rw[e0]at d0;refine⟨zhz d0.1 (by omega) rfl,?_⟩;rw[zlp d0.1];refine j6 (λm σ=>∃(j:Nat) (u2 u3:Option W),σ = [some (.val (pu a p b f)),some (.val (.int n)),u2,u3,some (.val (.int (cP a b p f j % p))),some (.val (.str (txL (vy a b p j f))))]/\j<=n/\m=n-j) n ⟨0,_,_,rfl,Nat.zero_le _,rfl⟩ ?_;rintro m σ N ⟨j,u2,u3,rfl,hj,rfl⟩ k;walk_at "ds";rw[zaf,zg5]
 by_cases c2:(j:Int)<(n:Int)
 ·rw[if_pos c2];have:=md j;have dj:=dv (j+1);refine⟨a,p,b,f,_,1,rfl,o,by omega,by omega,by omega,by omega,?_⟩;simp only[pu];walk_at "ds";rw[zh2,show stP a b p (cP a b p f j)=cP a b p f (j+1) from rfl];refine⟨_,rfl,⟨by omega,by omega⟩,?_⟩;walk_at "ds";refine⟨zhz dj.1 (by omega) rfl,?_⟩;rw[zlp dj.1,vf,yn,yn,yn,yn,List.length_replicate];refine⟨by simp;omega,?_,?_⟩
  ·have h1:=zeb _ (zfl (a:=a) (b:=b) (p:=p) j f);have h2:=zg5 (a:=a) (b:=b) (p:=p) j f;have h3:=zl6 hp o.a0 o.b0 j f o.f0;have h4:=zg7 hp o.a0 o.b0 o.f0 j (n-j);rw[show j+(n-j)=n by omega]at h4;simp;omega
  ·rw[vf,show [97]++List.replicate (cP a b p f (j+1) / p).toNat 107=97::List.replicate (cP a b p f (j+1) / p).toNat 107 from rfl,<-zje];exact k (n-(j+1)) _ (by omega) ⟨j+1,_,_,rfl,by omega,rfl⟩
 ·rw[if_neg c2,show j=n by omega];exact q2
def cnR(a p b:Int):List Nat->Int->Int
 |[],c=>c
 |x::r,c=>cnR a p b r (yf a p b x c)
def unR(a p b:Int):List Nat->Nat->Int->List Int
 |[],_,_=>[]
 |x::r,i,c=>(if x=97 then [] else if p<=c then [] else [(i:Int)])++unR a p b r (i+1) (yf a p b x c)
def pdR(a p b:Int):List Nat->Int->Int
 |[],_=>0
 |x::r,c=>(if x=97 then 0 else if p<=c then 1 else 0)+pdR a p b r (yf a p b x c)
section
variable {a p b:Int}
theorem zfo:∀(l:List Nat) (i:Nat) (c:Int) (u:List Int),gn a p b l i c u=(cnR a p b l c,u++unR a p b l i c)
 |[],i,c,u=>by simp[gn,cnR,unR]
 |x::r,i,c,u=>by
  show gn a p b r (i+1) (yf a p b x c) _=_;rw[zfo r];show(cnR a p b r (yf a p b x c),_)=(cnR a p b r (yf a p b x c),u++(_++_))
  rw[<-List.append_assoc]
  split
  ·simp
  ·split <;> simp
theorem zl9(l m:List Nat)(c:Int):cnR a p b (l++m) c=cnR a p b m (cnR a p b l c):=by
 induction l generalizing c with
 |nil=>rfl
 |cons x l ih=>exact ih _
theorem zb4(l m:List Nat)(c:Int):pdR a p b (l++m) c=pdR a p b l c+pdR a p b m (cnR a p b l c):=by
 induction l generalizing c with
 |nil=>simp[pdR,cnR]
 |cons x l ih=>
  show _+pdR a p b (l++m) _=_;rw[ih];show _=_+pdR a p b l _+pdR a p b m (cnR a p b l _);omega
theorem zh3{l:List Nat}(h:∀x∈l,x=97\/x=107)(i:Nat)(c:Int):((unR a p b l i c).length:Int)=(l.count 107:Int)-pdR a p b l c:=by
 induction l generalizing i c with
 |nil=>simp[unR,pdR]
 |cons x l ih=>
  have ih:=ih (λy hy=>h y (List.mem_cons_of_mem _ hy)) (i+1) (yf a p b x c);show((_++unR a p b l (i+1) (yf a p b x c)).length:Int)=_-(_+pdR a p b l (yf a p b x c));rw[List.length_append,Int.natCast_add,ih];rcases h x List.mem_cons_self with rfl|rfl
  ·simp
  ·simp only[show ¬ (107:Nat)=97 by decide,if_false,List.count_cons_self,Int.natCast_add]
   split <;> simp <;> omega
theorem zfp(ha:0<=a)(hp:1<=p)(hb:0<=b)(l:List Nat){c:Int}(h:0<=c/\c<=b):0<=cnR a p b l c/\cnR a p b l c<=b:=by
 induction l generalizing c with
 |nil=>exact h
 |cons x l ih=>
  refine ih ?_;unfold yf
  split
  ·omega
  ·split <;> omega
theorem zt1(l:List Nat)(c:Int):0<=pdR a p b l c:=by
 induction l generalizing c with
 |nil=>exact Int.le_refl _
 |cons x l ih=>
  have:=ih (yf a p b x c);show 0<=_+pdR a p b l (yf a p b x c)
  split
  ·omega
  ·split <;> omega
theorem zol(ha:0<=a)(hp:1<=p)(l:List Nat):(∀c c':Int,c<=c'->pdR a p b l c<=pdR a p b l c')/\∀c:Int,pdR a p b l (c+p)<=1+pdR a p b l c:=by
 induction l with
 |nil=>exact⟨λ_ _ _=>Int.le_refl _,λc=>by simp[pdR]⟩
 |cons x l ih=>
  obtain⟨i1,i2⟩:=ih
  by_cases z:x=97
  ·subst z
   have e:∀c,pdR a p b (97::l) c=pdR a p b l (min (c+a) b):=λc=>by
    show _+pdR a p b l (yf a p b 97 c)=_;unfold yf;rw[if_pos rfl,if_pos rfl,Int.one_mul,Int.zero_add]
   refine⟨λc c' h=>?_,λc=>?_⟩
   ·rw[e,e];exact i1 _ _ (by omega)
   ·rw[e,e];have h1:=i1 (min (c+p+a) b) (min (c+a) b+p) (by omega);have h2:=i2 (min (c+a) b);omega
  ·have e1:∀c,p<=c->pdR a p b (x::l) c=1+pdR a p b l (c-p):=λc h=>by
    show _+pdR a p b l (yf a p b x c)=_;unfold yf;rw[if_neg z,if_pos h,if_neg z,if_pos h]
   have e2:∀c,¬ p<=c->pdR a p b (x::l) c=pdR a p b l c:=λc h=>by
    show _+pdR a p b l (yf a p b x c)=_;unfold yf;rw[if_neg z,if_neg h,if_neg z,if_neg h,Int.zero_add]
   refine⟨λc c' h=>?_,λc=>?_⟩
   ·by_cases h1:p<=c
    ·rw[e1 c h1,e1 c' (by omega)];have:=i1 (c-p) (c' - p) (by omega);omega
    ·rw[e2 c h1]
     by_cases h2:p<=c'
     ·rw[e1 c' h2];have:=i2 (c' - p);have:=i1 c (c' - p+p) (by omega);omega
     ·rw[e2 c' h2];exact i1 _ _ h
   ·by_cases h1:p<=c
    ·rw[e1 c h1,e1 (c+p) (by omega)];have:=i2 (c-p);rw[show c-p+p=c by omega]at this;rw[show c+p-p=c by omega];omega
    ·rw[e2 c h1]
     by_cases h2:p<=c+p
     ·rw[e1 _ h2,show c+p-p=c by omega];exact Int.le_refl _
     ·rw[e2 _ h2];exact i2 c
theorem zom(ha:0<=a)(hp:1<=p)(l:List Nat){c c':Int}(h:c<=c'):pdR a p b l c<=pdR a p b l c':=(zol ha hp l).1 c c' h
theorem zpf(ha:0<=a)(hp:1<=p)(hb:0<=b)(l:List Nat){c:Int}(hc:0<=c):pdR a p b l c<=vP a b p (l.count 97) c:=by
 induction l generalizing c with
 |nil=>exact Int.ediv_nonneg hc (by omega)
 |cons x l ih=>
  by_cases z:x=97
  ·subst z;have h0:(0:Int)<=c / p:=Int.ediv_nonneg hc (by omega);have h1:=zl1 (a:=a) (b:=b) (show 0<p by omega) (l.count 97+1) h0;rw[Int.zero_mul,Int.sub_zero,Int.zero_add]at h1;have h2:=ih (c:=min (c+a) b) (by omega);rw[List.count_cons_self]
   have e:pdR a p b (97::l) c=pdR a p b l (min (c+a) b):=by
    show _+pdR a p b l (yf a p b 97 c)=_;unfold yf;rw[if_pos rfl,if_pos rfl,Int.one_mul,Int.zero_add]
   rw[e];exact Int.le_trans h2 h1
  ·rw[List.count_cons_of_ne (by simpa using z)]
   by_cases h:p<=c
   ·have e:pdR a p b (x::l) c=1+pdR a p b l (c-p):=by
     show _+pdR a p b l (yf a p b x c)=_;unfold yf;rw[if_neg z,if_pos h,if_neg z,if_pos h]
    have h2:=ih (c:=c-p) (by omega);have h3:=zl0 (a:=a) (b:=b) (show 0<p by omega) (l.count 97) (c-p) 1;rw[show c-p+1 * p=c by omega]at h3;rw[e,h3];omega
   ·have e:pdR a p b (x::l) c=pdR a p b l c:=by
     show _+pdR a p b l (yf a p b x c)=_;unfold yf;rw[if_neg z,if_neg h,if_neg z,if_neg h,Int.zero_add]
    rw[e];exact ih hc
theorem zon(hp:1<=p)(l:List Nat){c f:Int}(h:c<=f):cnR 0 p b l c<=f:=by
 induction l generalizing c with
 |nil=>exact h
 |cons x l ih=>
  refine ih ?_;unfold yf
  split
  ·omega
  ·split <;> omega
theorem zoo(hp:1<=p){l:List Nat}(i:Nat){c:Int}(h:zl7 a b p l c):unR a p b l i c = []:=by
 induction l generalizing i c with
 |nil=>rfl
 |cons x l ih=>
  obtain⟨h0,h1⟩:=h;show _++unR a p b l (i+1) (yf a p b x c) = []
  unfold yf
  by_cases z:x=97
  ·subst z;rw[if_pos rfl]at h1 ⊢;rw[if_pos rfl,Int.one_mul,Int.min_comm,List.nil_append];exact ih _ h1
  ·rw[if_neg z]at h1 ⊢
   have hc:p<=c:=by
    cases l with
    |nil=>have:0<=c-p:=h1;omega
    |cons y l=>have:=h1.1;omega
   rw[if_neg z,if_pos hc,if_pos hc,List.nil_append];exact ih _ h1
def alk(p p':Int)(x y:Int):Prop:=decide (p<=x)=decide (p'<=y)
end
section
variable {a p b a' p' b':Int}
def Pre(a p b a' p' b' f f':Int)(l:List Nat):Prop:=∀r s:List Nat,l=r++s->s ≠ []->alk p p' (cnR a p b r f) (cnR a' p' b' r f')
theorem Pre.nil{f f':Int}:Pre a p b a' p' b' f f' []:=λr s e h=>by
 cases r with
 |nil=>exact absurd e.symm h
 |cons x r=>cases e
theorem Pre.snoc{f f':Int}{l:List Nat}(x:Nat)(h:Pre a p b a' p' b' f f' l)(hl:alk p p' (cnR a p b l f) (cnR a' p' b' l f')):Pre a p b a' p' b' f f' (l ++ [x]):=λr s e hs=>by
 rcases List.eq_nil_or_concat s with rfl |⟨s',y,rfl⟩
 ·exact absurd rfl hs
 ·rw[List.concat_eq_append,<-List.append_assoc]at e;obtain⟨e1,e2⟩:=List.append_inj' e rfl
  cases s' with
  |nil=>rw[List.append_nil]at e1;rw[<-e1];exact hl
  |cons z s'=>exact h r _ e1 (by simp)
theorem zfq{f f':Int}(l:List Nat)(i:Nat)(h:Pre a p b a' p' b' f f' l):unR a p b l i f=unR a' p' b' l i f':=by
 induction l generalizing i f f' with
 |nil=>rfl
 |cons x l ih=>
  have h0:decide (p<=f)=decide (p'<=f'):=h [] (x::l) rfl (by simp);show _++unR a p b l (i+1) (yf a p b x f)=_++unR a' p' b' l (i+1) (yf a' p' b' x f');rw[ih (i+1) λr s e hs=>h (x::r) s (by rw[e];rfl) hs];congr 1
  by_cases z:x=97
  ·rw[if_pos z,if_pos z]
  ·rw[if_neg z,if_neg z]
   by_cases h1:p<=f
   ·have h2:p'<=f':=by rw[decide_eq_true h1]at h0;exact of_decide_eq_true h0.symm
    rw[if_pos h1,if_pos h2]
   ·have h2:¬ p'<=f':=by rw[decide_eq_false h1]at h0;exact of_decide_eq_false h0.symm
    rw[if_neg h1,if_neg h2]
end
end
section
variable {P:Program}{w:World}{K:PySem.W.Frag}{mg:Str->Option Value}{base:Heap}{f:Addr}{fd:FuncData}
structure Bfs(a p b a' p' b' f f':Int)(E:List ((Int×Int)×List Nat))(t:Nat):Prop where
 nd:(E.map Prod.fst).Nodup
 z:E[0]?=some ((f,f'),[])
 each:∀(i:Nat) (e:(Int×Int)×List Nat),E[i]?=some e->Sg e.2/\e.1=(cnR a p b e.2 f,cnR a' p' b' e.2 f')/\e.2.length<=i/\Pre a p b a' p' b' f f' e.2
 done:∀(i:Nat) (e:(Int×Int)×List Nat),i<t->E[i]?=some e->alk p p' e.1.1 e.1.2/\∀x:Nat,x=97\/x=107->(yf a p b x e.1.1,yf a' p' b' x e.1.2)∈E.map Prod.fst
section
variable {a p b a' p' b' f f':Int}{E:List ((Int×Int)×List Nat)}{t:Nat}
theorem Bfs.start:Bfs a p b a' p' b' f f' [((f,f'),[])] 0 where
 nd:=by simp
 z:=rfl
 each:=λi e h=>by
  cases i with
  |zero=>cases h;exact⟨λx hx=>(nomatch hx),rfl,Nat.le_refl _,.nil⟩
  |succ i=>cases h
 done:=λi e h=>absurd h (Nat.not_lt_zero _)
theorem za7(l:List Nat)(x:Nat)(c:Int):cnR a p b (l ++ [x]) c=yf a p b x (cnR a p b l c):=by rw[zl9];rfl
theorem Bfs.add(B:Bfs a p b a' p' b' f f' E t){e:(Int×Int)×List Nat}(he:E[t]?=some e)(ha:alk p p' e.1.1 e.1.2){x:Nat}(hx:x=97\/x=107)(hn:(yf a p b x e.1.1,yf a' p' b' x e.1.2)∉E.map Prod.fst):
  Bfs a p b a' p' b' f f' (E ++ [((yf a p b x e.1.1,yf a' p' b' x e.1.2),e.2 ++ [x])]) t where
 nd:=by
  rw[List.map_append,List.nodup_append];refine⟨B.nd,by simp,λy hy z hz=>?_⟩;simp at hz;subst hz;rintro rfl;exact hn hy
 z:=by
  have:=B.z;have hl:0<E.length:=by
   cases E with
   |nil=>cases this
   |cons y E=>simp
  rw[List.getElem?_append_left hl];exact this
 each:=λi d h=>by
  obtain⟨h1,h2,h3,h4⟩:=B.each t e he;rcases Nat.lt_trichotomy i E.length with hi|hi|hi
  ·rw[List.getElem?_append_left hi]at h;exact B.each i d h
  ·subst hi;rw[List.getElem?_append_right (Nat.le_refl _)]at h;simp at h;subst h
   have hlt:t<E.length:=by
    rcases Nat.lt_or_ge t E.length with z|z
    ·exact z
    ·rw[List.getElem?_eq_none z]at he;cases he
   have e1:e.1.1=cnR a p b e.2 f:=by rw[h2]
   have e2:e.1.2=cnR a' p' b' e.2 f':=by rw[h2]
   refine⟨λy hy=>?_,?_,by simp;omega,h4.snoc x (by rw[<-e1,<-e2];exact ha)⟩
   ·rcases List.mem_append.mp hy with hy|hy
    ·exact h1 y hy
    ·rw[List.mem_singleton.mp hy];exact hx
   ·rw[za7,za7,<-e1,<-e2]
  ·rw[List.getElem?_eq_none (by simp;omega)]at h
   cases h
 done:=λi d hi h=>by
  have hlt:t<E.length:=by
   rcases Nat.lt_or_ge t E.length with z|z
   ·exact z
   ·rw[List.getElem?_eq_none z]at he;cases he
  rw[List.getElem?_append_left (by omega)]at h;obtain⟨h1,h2⟩:=B.done i d hi h;refine⟨h1,λy hy=>?_⟩;rw[List.map_append];exact List.mem_append_left _ (h2 y hy)
theorem Bfs.step(B:Bfs a p b a' p' b' f f' E t){e:(Int×Int)×List Nat}(he:E[t]?=some e)(ha:alk p p' e.1.1 e.1.2)(hs:∀x:Nat,x=97\/x=107->(yf a p b x e.1.1,yf a' p' b' x e.1.2)∈E.map Prod.fst):Bfs a p b a' p' b' f f' E (t+1) where
 nd:=B.nd
 z:=B.z
 each:=B.each
 done:=λi d hi h=>by
  by_cases z:i=t
  ·subst z;rw[he]at h
   cases h;exact⟨ha,hs⟩
  ·exact B.done i d (by omega) h
theorem zma{P:List Nat->Prop}(h0:P [])(h:∀l x,P l->P (l ++ [x])):∀l,P l:=by
 intro l;have:∀(n:Nat) (l:List Nat),l.length=n->P l:=by
  intro n
  induction n with
  |zero=>intro l e;rw[List.eq_nil_of_length_eq_zero e];exact h0
  |succ n ih=>
   intro l e;rcases List.eq_nil_or_concat l with rfl |⟨s,y,rfl⟩
   ·cases e
   ·rw[List.concat_eq_append]at e ⊢;exact h s y (ih s (by simpa using e))
 exact this _ l rfl
theorem Bfs.all(B:Bfs a p b a' p' b' f f' E t)(ht:E.length<=t):∀l:List Nat,Sg l->alk p p' (cnR a p b l f) (cnR a' p' b' l f'):=by
 have mem:∀l:List Nat,Sg l->(cnR a p b l f,cnR a' p' b' l f')∈E.map Prod.fst:=by
  refine zma ?_ ?_
  ·intro _;exact List.mem_map.mpr ⟨_,List.mem_of_getElem? B.z,rfl⟩
  ·intro l x ih sg;have:=ih λy hy=>sg y (List.mem_append_left _ hy);obtain⟨e,he,ee⟩:=List.mem_map.mp this;obtain⟨i,hi⟩:=List.getElem?_of_mem he
   have hlt:i<E.length:=by
    rcases Nat.lt_or_ge i E.length with z|z
    ·exact z
    ·rw[List.getElem?_eq_none z]at hi;cases hi
   have:=(B.done i e (by omega) hi).2 x (sg x (List.mem_append_right _ List.mem_cons_self));rw[za7,za7];rw[ee]at this;exact this
 intro l sg;obtain⟨e,he,ee⟩:=List.mem_map.mp (mem l sg);obtain⟨i,hi⟩:=List.getElem?_of_mem he;have hlt:i<E.length:=by
  rcases Nat.lt_or_ge i E.length with z|z
  ·exact z
  ·rw[List.getElem?_eq_none z]at hi;cases hi
 have:=(B.done i e (by omega) hi).1;rw[ee]at this;exact this
theorem Bfs.bd(B:Bfs a p b a' p' b' f f' E t)(ha:0<=a)(hp:1<=p)(hb:0<=b)(hf:0<=f/\f<=b)(ha':0<=a')(hp':1<=p')(hb':0<=b')(hf':0<=f'/\f'<=b'){e:(Int×Int)×List Nat}(he:e∈E):
  (0<=e.1.1/\e.1.1<=b)/\0<=e.1.2/\e.1.2<=b':=by
 obtain⟨i,hi⟩:=List.getElem?_of_mem he;rw[(B.each i e hi).2.1];exact⟨zfp ha hp hb _ hf,zfp ha' hp' hb' _ hf'⟩
theorem Bfs.len(B:Bfs a p b a' p' b' f f' E t)(ha:0<=a)(hp:1<=p)(hb:0<=b)(hf:0<=f/\f<=b)(ha':0<=a')(hp':1<=p')(hb':0<=b')(hf':0<=f'/\f'<=b')(h6:b<=60)(h6':b'<=60):E.length<=3721:=by
 have nd:((E.map Prod.fst).map λq=>q.1 * 61+q.2).Nodup:=by
  refine List.pairwise_map.mpr (List.Pairwise.imp_of_mem (λ{x y} hx hy hne=>?_) B.nd);obtain⟨e,he,rfl⟩:=List.mem_map.mp hx;obtain⟨d,hd,rfl⟩:=List.mem_map.mp hy;have h1:=B.bd ha hp hb hf ha' hp' hb' hf' he;have h2:=B.bd ha hp hb hf ha' hp' hb' hf' hd;intro z;apply hne
  ext
  ·omega
  ·omega
 have:=nodup_len 3721 _ nd λx hx=>by
  obtain⟨q,hq,rfl⟩:=List.mem_map.mp hx;obtain⟨e,he,rfl⟩:=List.mem_map.mp hq;have h1:=B.bd ha hp hb hf ha' hp' hb' hf' he;omega
 simpa using this
end
def kvE(E:List ((Int×Int)×List Nat)):List (List Key×D):=E.map λe=>([.inl e.1.1,.inl e.1.2],.str (txL e.2))
def rcE(E:List ((Int×Int)×List Nat)):List D:=E.map λe=>.tuple [.int e.1.1,.int e.1.2]
theorem key2{x y u v:Int}:decide (([Sum.inl x,Sum.inl y]:List Key) = [Sum.inl u,Sum.inl v])=decide ((x,y)=(u,v)):=by
 by_cases h:(x,y)=(u,v)
 ·cases h;simp
 ·rw[decide_eq_false h,decide_eq_false];intro z;apply h;simp only[List.cons.injEq,Sum.inl.injEq,and_true]at z;rw[z.1,z.2]
theorem zfr:∀{E:List ((Int×Int)×List Nat)},(E.map Prod.fst).Nodup->∀{e:(Int×Int)×List Nat},e∈E->xp (kvE E) [Sum.inl e.1.1,Sum.inl e.1.2]=some (.str (txL e.2))
 |q::E,nd,e,h=>by
  rw[List.map_cons,List.nodup_cons]at nd;unfold xp kvE;rw[List.map_cons,List.find?_cons];dsimp only;rw[key2];rcases List.mem_cons.mp h with rfl|h
  ·simp
  ·have hne:¬ (q.1.1,q.1.2)=(e.1.1,e.1.2):=λz=>nd.1 (List.mem_map.mpr ⟨e,h,z.symm⟩);rw[decide_eq_false hne];exact zfr nd.2 h
theorem zc8:∀(E:List ((Int×Int)×List Nat)) (x y:Int),(xp (kvE E) [Sum.inl x,Sum.inl y]).isSome=decide ((x,y)∈E.map Prod.fst)
 |[],x,y=>rfl
 |q::E,x,y=>by
  have ih:=zc8 E x y;unfold xp kvE at ih ⊢;rw[List.map_cons,List.find?_cons];dsimp only;rw[key2]
  by_cases z:(q.1.1,q.1.2)=(x,y)
  ·rw[decide_eq_true z,decide_eq_true]
   ·rfl
   ·rw[List.map_cons,<-z];exact List.mem_cons_self
  ·rw[decide_eq_false z];refine ih.trans ?_;rw[List.map_cons];congr 1;apply propext;constructor
   ·exact List.mem_cons_of_mem _
   ·intro h;rcases List.mem_cons.mp h with h|h
    ·exact absurd h.symm z
    ·exact h
theorem zmb{E:List ((Int×Int)×List Nat)}{x y:Int}{l:List Nat}(h:(x,y)∉E.map Prod.fst):zau (kvE E) [Sum.inl x,Sum.inl y] (.str (txL l))=kvE (E ++ [((x,y),l)]):=by
 unfold zau;rw[if_neg]
 ·unfold kvE;rw[List.map_append];rfl
 ·intro z;rw[List.any_eq_true]at z;obtain⟨q,hq,e⟩:=z;obtain⟨d,hd,rfl⟩:=List.mem_map.mp hq;dsimp only at e;rw[key2]at e;apply h;rw[<-of_decide_eq_true e];exact List.mem_map.mpr ⟨d,hd,rfl⟩
def vr:DSp:=λws Q=>∃(a p b f a' p' b' f':Int),ws = [.val (pu a p b f),.val (pu a' p' b' f')]/\PuOk a p b f/\PuOk a' p' b' f'/\b<=60/\b'<=60/\(∀l:List Nat,Sg l->l.length<=4000->Pre a p b a' p' b' f f' l->¬ alk p p' (cnR a p b l f) (cnR a' p' b' l f')->Q (.val (.str (txL (l ++ [107])))))/\((∀l:List Nat,Sg l->alk p p' (cnR a p b l f) (cnR a' p' b' l f'))->Q (.val .none))
theorem zec(B:Blt mg)(F:Fun K "parted_by" "parted_by" qj f fd){t_MOST_CAP:Tok}(G_MOST_CAP:mg "MOST_CAP" = some (.int 60 t_MOST_CAP)){t_ASK:Tok}(G_ASK:mg "ASK" = some (.str "a" t_ASK)){t_KNOCK:Tok}(G_KNOCK:mg "KNOCK" = some (.str "k" t_KNOCK))(C_can_pay:Cal P w K mg base 1 "can_pay" ["purse", "coins"] (zq K x6))(C_coins_by:Cal P w K mg base 2 "coins_by" ["purse", "coins", "sign"] (zq K wg)):FnOk P w K mg base CX0 3 f fd ["one", "other"] (zq K vr):=by
 refine F.dok sc_parted_by (λws Q h=>?_) (λcdv A outer s H ws Q E hr h=>?_)
 ·obtain⟨a,p,b,f,a',p',b',f',rfl,_⟩:=h;rfl
 obtain⟨a,p,b,f,a',p',b',f',rfl,o,o',h6,h6',q1,q2⟩:=h;refine⟨_,(za (yi (i:=2) sc_parted_by.nd rfl (Or.inl rfl) (zy (zo3 rfl) rfl B.max boot_max (zm (DE.dv (yc (zc 0) ze (λ_ _=>rfl))) (zm (DE.dv (yc (zc 1) ze (λ_ _=>rfl))) yb)))) (za (yk (yg zet (zc 2) (DE.dv (yh (d:=.int 60) (v:=.int 60) rfl G_MOST_CAP ⟨_,rfl⟩ (λ_=>.int))) (zx _)) (zf qb) z9) (za (zc7 (j:=3) sc_parted_by.nd rfl (Or.inl rfl) (zg (yc (zc 0) ze (λ_ _=>rfl)) (zg (yc (zc 1) ze (λ_ _=>rfl)) yd))) (za (zjb 3 hr (i:=4) sc_parted_by.nd rfl (Or.inl rfl) v4) (za (zdr (i:=5) sc_parted_by.nd rfl (Or.inl rfl) (wm (zg (zpb 3) yd))) (za (yi (i:=6) sc_parted_by.nd rfl (Or.inl rfl) ze) (za (zbo PassesOwn.never (yg zm8 (zc 6) (DE.dv (zy w4 rfl B.len PySem.boot_len (zm (zc 5) yb))) (zx _)) (za (vc (yc (zc 5) (zn 6) (λ_ _=>rfl)) (xk (n:=2) rfl (zr (zt (i:=7) sc_parted_by.nd rfl (Or.inl rfl)) (zr (zt (i:=8) sc_parted_by.nd rfl (Or.inl rfl)) y0)))) (za (yi (i:=9) sc_parted_by.nd rfl (Or.inl rfl) (zlx 4 hr (yc (zc 5) (zn 6) (λ_ _=>rfl)))) (za (yk (yg (zbk hr) (DE.dv (zb C_can_pay hr rfl (zd 0 (zd 7 zh)))) (DE.dv (zb C_can_pay hr rfl (zd 1 (zd 8 zh)))) (zx _)) (zf (zo (ya yq (zc 9) (DE.dv (yh (d:=.str "k") (v:=.str "k") rfl G_KNOCK ⟨_,rfl⟩ (λ_=>.str)))))) z9) (za (zbp PassesOwn.never rfl (zdo (yw (zg (yh (d:=.str "a") (v:=.str "a") rfl G_ASK ⟨_,rfl⟩ (λ_=>.str)) (zg (yh (d:=.str "k") (v:=.str "k") rfl G_KNOCK ⟨_,rfl⟩ (λ_=>.str)) yd)))) (zt (i:=10) sc_parted_by.nd rfl (Or.inl rfl)) (za (zc7 (j:=11) sc_parted_by.nd rfl (Or.inl rfl) (zg (zb C_coins_by hr rfl (zd 0 (zd 7 (zd 10 zh)))) (zg (zb C_coins_by hr rfl (zd 1 (zd 8 (zd 10 zh)))) yd))) (zf (yk (zi9 4 11 hr) (za (zn8 4 11 hr (ya yq (zc 9) (zc 10))) (zf (j7 5 (zpb 11)))) z9)))) (zf (zgm zjl (i:=6) sc_parted_by.nd rfl (Or.inl rfl) ze))))))) (zf (zo zgb))))))))),?_⟩;simp only[pu];walk_at "ds";refine⟨_,rfl,_,rfl,?_⟩;walk_at "ds";rw[if_neg (by omega)];refine⟨_,rfl,_,rfl,[.inl f,.inl f'],rfl,?_⟩;have a0:=o.a0;have p0:=o.p0;have b0:=o.b0;have f0:0<=f/\f<=b:=⟨o.f0,o.f1⟩
 have a0':=o'.a0;have p0':=o'.p0;have b0':=o'.b0;have f0':0<=f'/\f'<=b':=⟨o'.f0,o'.f1⟩
 have nil_is:(Str.ofString "")=txL []:=by decide +kernel
 rw[nil_is];refine j6 (λm σ=>∃(E:List ((Int×Int)×List Nat)) (t:Nat) (u1 u2 u3 u4 u5:Option W),σ = [some (.val (pu a p b f)),some (.val (pu a' p' b' f')),some (.val (.int (max b b'))),some (.own (.tk [.inl f,.inl f'])),some (.own (.dcT (kvE E))),some (.own (.lst (rcE E))),some (.val (.int t)),u1,u2,u3,u4,u5]/\Bfs a p b a' p' b' f f' E t/\t<=E.length/\m=4000-t) 4000 ⟨[((f,f'),[])],0,none,none,none,none,none,rfl,.start,Nat.zero_le _,rfl⟩ ?_;rintro m σ N ⟨E,t,u1,u2,u3,u4,u5,rfl,B,ht,rfl⟩ k;have len:=B.len a0 p0 b0 f0 a0' p0' b0' f0' h6 h6';have lr:(rcE E).length=E.length:=by simp[rcE]
 walk_at "ds";rw[lr]
 by_cases c:t<E.length
 ·rw[if_pos (by omega)];obtain⟨e,he⟩:∃e,E[t]?=some e:=⟨E[t],List.getElem?_eq_getElem c⟩
  have hat:atI (rcE E) (t:Int)=some (.tuple [.int e.1.1,.int e.1.2]):=qv (by unfold rcE;rw[List.getElem?_map,he];rfl);have me:=List.mem_of_getElem? he;have bd:=B.bd a0 p0 b0 f0 a0' p0' b0' f0' me;obtain⟨sg,ee,el,pre⟩:=B.each t e he;have e1:e.1.1=cnR a p b e.2 f:=by rw[ee]
  have e2:e.1.2=cnR a' p' b' e.2 f':=by rw[ee]
  refine⟨_,hat,?_⟩;walk_at "ds";refine⟨_,hat,[.inl e.1.1,.inl e.1.2],_,rfl,zfr B.nd me,a,p,b,f,_,rfl,a',p',b',f',_,rfl,?_⟩;walk_at "ds"
  by_cases al:alk p p' e.1.1 e.1.2
  ·have al':decide (p<=e.1.1)=decide (p'<=e.1.2):=al;simp only[al',decide_true,Bool.not_true,Bool.false_eq_true,if_false];rw[zaq,zbz];refine w5 (λds σ=>∃(L:List Nat) (E':List ((Int×Int)×List Nat)) (u1 u2:Option W),ds=L.map (λc=>PyData.str (txL [c]))/\(∀x∈L,x=97\/x=107)/\Bfs a p b a' p' b' f f' E' t/\E'[t]?=some e/\(∀x:Nat,x=97\/x=107->x∈L\/(yf a p b x e.1.1,yf a' p' b' x e.1.2)∈E'.map Prod.fst)/\σ = [some (.val (pu a p b f)),some (.val (pu a' p' b' f')),some (.val (.int (max b b'))),some (.own (.tk [.inl f,.inl f'])),some (.own (.dcT (kvE E'))),some (.own (.lst (rcE E'))),some (.val (.int t)),some (.val (.int e.1.1)),some (.val (.int e.1.2)),some (.val (.str (txL e.2))),u1,u2]) ?_ ?_ ⟨[97,107],E,_,_,rfl,(λx hx=>by simpa using hx),B,he,(λx hx=>.inl (by simpa using hx)),rfl⟩
   ·rintro d ds σ N' ⟨L,E',u1,u2,e0,hL,B',he',hs,rfl⟩ k'
    cases L with
    |nil=>cases e0
    |cons x L=>
     cases e0;have hx:=hL x List.mem_cons_self;have len':=B'.len a0 p0 b0 f0 a0' p0' b0' f0' h6 h6';walk_at "ds";refine⟨a,p,b,f,_,x,rfl,o,bd.1.1,bd.1.2,a',p',b',f',_,x,rfl,o',bd.2.1,bd.2.2,?_⟩;walk_at "ds";refine⟨[.inl (yf a p b x e.1.1),.inl (yf a' p' b' x e.1.2)],rfl,?_⟩;rw[zc8]
     by_cases z:(yf a p b x e.1.1,yf a' p' b' x e.1.2)∈E'.map Prod.fst
     ·simp only[decide_eq_true z,if_true];refine k' _ ⟨L,E',_,_,rfl,λy hy=>hL y (List.mem_cons_of_mem _ hy),B',he',λy hy=>?_,rfl⟩;rcases hs y hy with h|h
      ·rcases List.mem_cons.mp h with h|h
       ·rw[h];exact .inr z
       ·exact .inl h
      ·exact .inr h
     ·rw[decide_eq_false z];simp only[Bool.not_false,if_true,Bool.false_eq_true,if_false]
      have lt':t<E'.length:=by
       rcases Nat.lt_or_ge t E'.length with z|z
       ·exact z
       ·rw[List.getElem?_eq_none z]at he';cases he'
      rw[yn,yn,vf,zmb z,show(kvE E').length=E'.length by simp[kvE],show(rcE E').length=E'.length by simp[rcE]];refine⟨by simp;omega,by omega,by omega,k' _ ⟨L,_,_,_,rfl,λy hy=>hL y (List.mem_cons_of_mem _ hy),B'.add he' al hx z,by rw[List.getElem?_append_left lt'];exact he',λy hy=>?_,(by simp only[rcE,List.map_append];rfl)⟩⟩;rw[List.map_append];rcases hs y hy with h|h
      ·rcases List.mem_cons.mp h with h|h
       ·rw[h];exact .inr (List.mem_append_right _ List.mem_cons_self)
       ·exact .inl h
      ·exact .inr (List.mem_append_left _ h)
   ·rintro σ ⟨L,E',u1,u2,e0,hL,B',he',hs,rfl⟩
    cases L with
    |cons x L=>cases e0
    |nil=>
     walk_at "ds";have len':=B'.len a0 p0 b0 f0 a0' p0' b0' f0' h6 h6';have lt':t<E'.length:=by
      rcases Nat.lt_or_ge t E'.length with z|z
      ·exact z
      ·rw[List.getElem?_eq_none z]at he';cases he'
     exact k (4000-(t+1)) _ (by omega) ⟨E',t+1,_,_,_,_,_,rfl,B'.step he' al (λx hx=>(hs x hx).resolve_left (λh=>nomatch h)),by omega,rfl⟩
  ·have al':¬ decide (p<=e.1.1)=decide (p'<=e.1.2):=al;simp only[al',decide_false,Bool.not_false,if_true];rw[zbz,yn,yn,vf];refine⟨by simp;omega,q1 e.2 sg (by omega) pre (by rw[<-e1,<-e2];exact al)⟩
 ·rw[if_neg (by omega)];exact q2 (B.all (by omega))
end
section
variable {P:Program}{w:World}{K:PySem.W.Frag}{mg:Str->Option Value}{base:Heap}{f:Addr}{fd:FuncData}
def zb5(L:Nat)(dflt:Int):Option Int->Int
 |none=>dflt
 |some i=>max 0 (min (if i<0 then i+(L:Int) else i) (L:Int))
theorem zt2{lo hi:Option Int}{A B L:Nat}(h1:zb5 L 0 lo=(A:Int))(h2:zb5 L L hi=(B:Int)):PySem.Builtin.Str.strSliceIndices lo hi 1 L=(List.range (B-A)).map (A + ·):=by
 rw[<-sliceRange_one,<-h1,<-h2]
 cases lo <;> cases hi <;> rfl
theorem zb6{l:List Nat}{lo hi:Option Int}{A B:Nat}(h1:zb5 l.length 0 lo=(A:Int))(h2:zb5 l.length l.length hi=(B:Int))(hB:B<=l.length):Txt.slice (txL l) lo hi=txL ((l.drop A).take (B-A)):=by
 have e:=zt2 (L:=l.length) h1 h2;have el:(txL l).length=l.length:=by simp[txL,Str.length]
 unfold Txt.slice;rw[el,e];simp only[List.length_map,List.length_range,beq_self_eq_true,Bool.true_and,beq_iff_eq]
 split
 ·next h=>
  rw[h]
  by_cases z:l.length=0
  ·rw[List.eq_nil_of_length_eq_zero z];simp
  ·rw[show A=0 by omega];simp
 ·unfold txL;congr 2;rw[List.filterMap_map]
  have key:∀n,n<=l.length-A->List.filterMap ((λx=>(l.toArray)[x]?) ∘ λx=>A+x) (List.range n)=(l.drop A).take n:=by
   intro n
   induction n with
   |zero=>intro _;simp
   |succ n ih=>
    intro hn;rw[List.range_succ,List.filterMap_append,ih (by omega),List.take_succ];congr 1;have:A+n<l.length:=by omega
    simp[this]
  exact key (B-A) (by omega)
theorem zh4{l:List Nat}{n:Nat}:Txt.slice (txL l) none (some (n:Int))=txL (l.take n):=by
 rw[zb6 (A:=0) (B:=min n l.length) rfl (by simp only[zb5];rw[if_neg (by omega)];omega) (by omega)];simp[List.take_eq_take_min]
theorem zop{l:List Nat}{n:Nat}(h:n<=l.length):Txt.slice (txL l) (some (n:Int)) none=txL (l.drop n):=by
 rw[zb6 (A:=n) (B:=l.length) (by simp only[zb5];rw[if_neg (by omega)];omega) rfl (Nat.le_refl _)];rw[List.take_of_length_le (by rw[List.length_drop];omega)]
theorem zh5{l:List Nat}{x:Nat}:Txt.slice (txL (l ++ [x])) none (some (-1))=txL l:=by
 rw[zb6 (A:=0) (B:=l.length) rfl (by simp only[zb5];rw[if_pos (by decide)];simp;omega) (by simp)];simp
def uB:List (Int×Int):=[(0,1000),(1,1000),(0,10000),(0,10000)]
theorem za8{lo hi:Int}{d:D}(h:inB lo hi d=true):∃i,d=.int i:=by
 cases d with
 |int i=>exact⟨i,rfl⟩
 |_=>cases h
theorem zoq{d:D}(h:xv uB d=true):∃a b c e:Int,d=.tuple [.int a,.int b,.int c,.int e]:=by
 cases d with
 |tuple xs=>
  match xs with
  |[v,w,x,y]=>
   simp only[xv,uB,List.zip_cons_cons,List.zip_nil_right,List.all_cons,List.all_nil,Bool.and_true,Bool.and_eq_true,decide_eq_true_eq]at h;obtain⟨_,h1,h2,h3,h4⟩:=h;obtain⟨a,rfl⟩:=za8 h1;obtain⟨b,rfl⟩:=za8 h2;obtain⟨c,rfl⟩:=za8 h3;obtain⟨e,rfl⟩:=za8 h4;exact⟨a,b,c,e,rfl⟩
  |[]=>cases h
  |[_]=>cases h
  |[_,_]=>cases h
  |[_,_,_]=>cases h
  |_::_::_::_::_::_=>simp[xv,uB]at h
 |_=>cases h
def zed(d:D):Bool:=xv uB d && match d with
 |.tuple [_,_,.int c,.int e]=>decide (e<=c)
 |_=>false
def kj:DSp:=λws Q=>∃(d:D),ws = [.val d]/\Q (.val (.bool (zed d)))
theorem zcn(B:Blt mg)(F:Fun K "purse_good" "purse_good" vh f fd){ga_PURSE_BOUNDS:Addr}(G_PURSE_BOUNDS:mg "PURSE_BOUNDS" = some (.ref ga_PURSE_BOUNDS))(N_PURSE_BOUNDS:∀H,Rep K H (.tuple [(.tuple [(.int 0),(.int 1000)]),(.tuple [(.int 1),(.int 1000)]),(.tuple [(.int 0),(.int 10000)]),(.tuple [(.int 0),(.int 10000)])]) (.ref ga_PURSE_BOUNDS))(C_wholes_in:Cal P w K mg base 3 "wholes_in" ["thing", "bounds"] (zq K ju)):FnOk P w K mg base CX0 4 f fd ["thing"] (zq K kj):=by
 refine F.dok zcd (λws Q h=>?_) (λcdv A outer s H ws Q E hr h=>?_)
 ·obtain⟨d,rfl,_⟩:=h;rfl
 obtain⟨d,rfl,q⟩:=h;refine⟨_,(zf (zo (zbi (zb C_wholes_in hr rfl (zd 0 (zu (yh (v:=.ref _) rfl G_PURSE_BOUNDS rfl N_PURSE_BOUNDS) zh))) (zbh (wo zgd (DE.dv (yc (zc 0) ze (λ_ _=>rfl))) (DE.dv (yc (zc 0) ze (λ_ _=>rfl))) (zx _)))))),?_⟩;walk_at "ds";refine⟨d,uB,rfl,by decide,?_⟩;unfold zed at q
 cases e:xv uB d with
 |false=>rw[e]at q;walk_at "ds";exact q
 |true=>
  obtain⟨a,b,c,e',rfl⟩:=zoq e;rw[e]at q;walk_at "ds";refine⟨_,ziz _ _ _ _ _,_,znq _ _ _ _,?_⟩;exact q
def zb7:DSp:=λws Q=>∃(a p b f c:Int),ws = [.val (pu a p b f),.val (.int c)]/\0<=c/\c<=b/\Q (.val (pu a p b c))
theorem zmc(B:Blt mg)(F:Fun K "later" "later" zd1 f fd)(C_whole_in:Cal P w K mg base 2 "whole_in" ["thing", "least", "most"] (zq K wf)):FnOk P w K mg base CX0 3 f fd ["purse", "coins"] (zq K zb7):=by
 refine F.dok sc_later (λws Q h=>?_) (λcdv A outer s H ws Q E hr h=>?_)
 ·obtain⟨a,p,b,f,c,rfl,_⟩:=h;rfl
 obtain⟨a,p,b,f,c,rfl,c0,c1,q⟩:=h;refine⟨_,(za (vc (zn 0) (xk (n:=4) rfl (zr (zt (i:=2) sc_later.nd rfl (Or.inl rfl)) (zr (zt (i:=3) sc_later.nd rfl (Or.inl rfl)) (zr (zt (i:=4) sc_later.nd rfl (Or.inl rfl)) (zr (zt (i:=5) sc_later.nd rfl (Or.inl rfl)) y0)))))) (za (yk (xh (xi (DE.dv (zb C_whole_in hr rfl (zd 1 (zu ze (zd 4 zh) y7)))))) (zf qb) z9) (zf (zo (yw (zg (zn 2) (zg (zn 3) (zg (zn 4) (zg (zn 1) yd))))))))),?_⟩;simp only[pu];walk_at "ds";refine⟨_,_,_,rfl,?_⟩;have:inB 0 b (.int c)=true:=by simp only[inB,decide_eq_true_eq];exact⟨c0,c1⟩
 rw[this];walk_at "ds";exact q
theorem zr7(l:List Nat):Txt.endswith (txL (l ++ [107])) (Str.ofString "k")=true:=by
 rw[zbz,<-vf,PySem.W.KAf.ends_right (Nat.le_refl _)];decide +kernel
def zfs:DSp:=λws Q=>∃(a p b f a' p' b' f':Int) (l:List Nat),ws = [.val (pu a p b f),.val (pu a' p' b' f'),.val (.str (txL (l ++ [107])))]/\PuOk a p b f/\PuOk a' p' b' f'/\Sg l/\l.length<=5000/\Q (.val (.bool (decide (p<=cnR a p b l f) != decide (p'<=cnR a' p' b' l f'))))
theorem zmd(B:Blt mg)(F:Fun K "parts" "parts" zd0 f fd){t_KNOCK:Tok}(G_KNOCK:mg "KNOCK" = some (.str "k" t_KNOCK))(C_can_pay:Cal P w K mg base 1 "can_pay" ["purse", "coins"] (zq K x6))(C_signs_good:Cal P w K mg base 1 "signs_good" ["thing"] (zq K wz))(C_gone_by:Cal P w K mg base 4 "gone_by" ["purse", "row"] (zq K je)):FnOk P w K mg base CX0 5 f fd ["one", "other", "thing"] (zq K zfs):=by
 refine F.dok sc_parts (λws Q h=>?_) (λcdv A outer s H ws Q E hr h=>?_)
 ·obtain⟨a,p,b,f,a',p',b',f',l,rfl,_⟩:=h;rfl
 obtain⟨a,p,b,f,a',p',b',f',l,rfl,o,o',sg,hl,q⟩:=h;refine⟨_,(za (yk (DWt.dt (v5 (xh (xi (DE.dv (zb C_signs_good hr rfl (zd 2 zh))))) (wn (xh (xi (DE.dv (kz PySem.F.slot_str_endswith PySem.F.type_str_endswith zlg (λ_ _ _=>.bl) (zn 2) (yh (d:=.str "k") (v:=.str "k") rfl G_KNOCK ⟨_,rfl⟩ (λ_=>.str))))))))) (zf (zo y6)) z9) (za (yi (i:=3) sc_parts.nd rfl (Or.inl rfl) (xw (zn 2) qx (we (zbj ze)))) (zf (zo (wo (zbk hr) (DE.dv (zb C_can_pay hr rfl (zd 0 (zu (yc (DE.dv (zb C_gone_by hr rfl (zd 0 (zd 3 zh)))) ze (λ_ _=>rfl)) zh)))) (DE.dv (zb C_can_pay hr rfl (zd 1 (zu (yc (DE.dv (zb C_gone_by hr rfl (zd 1 (zd 3 zh)))) ze (λ_ _=>rfl)) zh)))) (zx _)))))),?_⟩;walk_at "ds";have sg2:Sg (l ++ [107]):=λx hx=>by
  rcases List.mem_append.mp hx with hx|hx
  ·exact sg x hx
  ·exact .inr (List.mem_singleton.mp hx)
 have c:sgB (txL (l ++ [107])).cps.toList=true:=sgB_iff.mpr (by simpa[txL]using sg2);refine⟨_,rfl,λx e=>by cases e;exact⟨sg2.asc,by rw[yn];simp;omega⟩,?_⟩;simp only[c];walk_at "ds";rw[zr7,zh5,if_neg (by decide),yn];refine⟨by simp;omega,a,p,b,f,l,rfl,o,sg,by omega,?_⟩;walk_at "ds";refine⟨_,rfl,a,p,b,f,_,rfl,a',p',b',f',l,rfl,o',sg,by omega,?_⟩;walk_at "ds";refine⟨_,rfl,a',p',b',f',_,rfl,?_⟩;walk_at "ds";rw[zfo,zfo];have e:∀x y:Bool,(!decide (x=y))=(x != y):=by decide
 rw[e];exact q
end
section
variable {P:Program}{w:World}{K:PySem.W.Frag}{mg:Str->Option Value}{base:Heap}{f:Addr}{fd:FuncData}
theorem cni{a p b f:Int}(l:List Nat):(gn a p b l 0 f []).1=cnR a p b l f:=by rw[zfo]
theorem uni{a p b f:Int}(l:List Nat):(gn a p b l 0 f []).2=unR a p b l 0 f:=by rw[zfo];rfl
theorem pdi{a p b f:Int}{l:List Nat}(h:Sg l):(l.count 107:Int)-((gn a p b l 0 f []).2.length:Int)=pdR a p b l f:=by
 rw[uni,zh3 h];omega
theorem Sg.take{l:List Nat}(h:Sg l)(n:Nat):Sg (l.take n):=λx hx=>h x (List.mem_of_mem_take hx)
theorem Sg.drop{l:List Nat}(h:Sg l)(n:Nat):Sg (l.drop n):=λx hx=>h x (List.mem_of_mem_drop hx)
theorem Sg.app{l m:List Nat}(h:Sg l)(h2:Sg m):Sg (l++m):=λx hx=>(List.mem_append.mp hx).elim (h x) (h2 x)
theorem PuOk.cn{a p b f:Int}(o:PuOk a p b f)(l:List Nat):PuOk a p b (cnR a p b l f) :=
 ⟨o.a0,o.a1,o.p0,o.p1,o.b0,o.b1,(zfp o.a0 o.p0 o.b0 l ⟨o.f0,o.f1⟩).1,(zfp o.a0 o.p0 o.b0 l ⟨o.f0,o.f1⟩).2⟩
theorem zme{a p b f:Int}(o:PuOk a p b f):zed (pu a p b f)=true:=by
 have:=o.a0;have:=o.a1;have:=o.p0;have:=o.p1;have:=o.b0;have:=o.b1;have:=o.f0;have:=o.f1;have e:∀lo hi i:Int,lo<=i->i<=hi->inB lo hi (.int i)=true:=λlo hi i h1 h2=>by simp only[inB,decide_eq_true_eq];exact⟨h1,h2⟩
 have w:xv uB (pu a p b f)=true:=by
  simp only[xv,uB,pu,List.zip_cons_cons,List.zip_nil_right,List.all_cons,List.all_nil,Bool.and_true,Bool.and_eq_true,decide_eq_true_eq];exact⟨rfl,e _ _ _ (by omega) (by omega),e _ _ _ (by omega) (by omega),e _ _ _ (by omega) (by omega),e _ _ _ (by omega) (by omega)⟩
 unfold zed;rw[w];simp only[pu,Bool.true_and,decide_eq_true_eq];exact o.f1
def wj:DSp:=λws Q=>∃(a p b f:Int) (l:List Nat) (n:Nat),ws = [.val (pu a p b f),.val (.str (txL l)),.val (.int n)]/\PuOk a p b f/\Sg l/\l.length<=100/\n<=l.length/\Q (.val (.bool true))
theorem jw(B:Blt mg)(F:Fun K "_law_row_right" "_law_row_right" xm f fd)(C_purse_good:Cal P w K mg base 4 "purse_good" ["thing"] (zq K kj))(C_coins_behind:Cal P w K mg base 6 "coins_behind" ["purse", "row"] (zq K xt))(C_paid_in:Cal P w K mg base 7 "paid_in" ["purse", "row"] (zq K vo))(C_unpaid_at:Cal P w K mg base 6 "unpaid_at" ["purse", "row"] (zq K xf))(C_most_paid:Cal P w K mg base 2 "most_paid" ["purse", "n"] (zq K xc))(C_most_between:Cal P w K mg base 3 "most_between" ["purse", "n"] (zq K vv))(C_later:Cal P w K mg base 3 "later" ["purse", "coins"] (zq K zb7)):FnOk P w K mg base CX0 8 f fd ["_law_purse_here", "_law_row", "_law_at"] (zq K wj):=by
 refine F.dok sc__law_row_right (λws Q h=>?_) (λcdv A outer s H ws Q E hr h=>?_)
 ·obtain⟨a,p,b,f,l,n,rfl,_⟩:=h;rfl
 obtain⟨a,p,b,f,l,n,rfl,o,sg,hl,hn,q⟩:=h;refine⟨_,(za (zkz (i:=3) (j:=4) rfl sc__law_row_right.nd rfl rfl (by decide) rfl rfl (zg (xw (zn 1) qx (we (zn 2))) (zg (xw (zn 1) (we (zn 2)) qx) yd)) rfl) (za (yi (i:=5) sc__law_row_right.nd rfl (Or.inl rfl) (zb C_later hr rfl (zd 0 (zu (zb C_coins_behind hr rfl (zd 0 (zd 3 zh))) zh)))) (za (yk (yg (zbk hr) (DE.dv (zb C_paid_in hr rfl (zd 0 (zd 1 zh)))) (DE.dv (ya yq (DE.dv (zb C_paid_in hr rfl (zd 0 (zd 3 zh)))) (DE.dv (zb C_paid_in hr rfl (zd 5 (zd 4 zh)))))) (zx _)) (zf (zo y6)) z9) (za (yk (DWt.dt (v5 (yg (zbk hr) (DE.dv (zb C_coins_behind hr rfl (zd 0 (zd 1 zh)))) (DE.dv (zb C_coins_behind hr rfl (zd 5 (zd 4 zh)))) (zx _)) (wn (yg zgq (DE.dv (zb C_purse_good hr rfl (zd 5 zh))) (DE.dv y6) (zx _))))) (zf (zo y6)) z9) (za (yk (yg (zbk hr) (DE.dv (ya yq (DE.dv (zb C_paid_in hr rfl (zd 0 (zd 1 zh)))) (DE.dv (zy w4 rfl B.len PySem.boot_len (zm (DE.dv (zb C_unpaid_at hr rfl (zd 0 (zd 1 zh)))) yb))))) (DE.dv (kz PySem.F.slot_str_count PySem.F.type_str_count xx (λ_ _ _=>.int) (zn 1) v4)) (zx _)) (zf (zo y6)) z9) (za (yk (yg zm8 (DE.dv (zb C_paid_in hr rfl (zd 0 (zu (ya yq (DE.dv (ya yq (zc 3) (DE.dv v4))) (zc 4)) zh)))) (DE.dv (zb C_paid_in hr rfl (zd 0 (zd 1 zh)))) (zx _)) (zf (zo y6)) z9) (za (yk (yg zet (DE.dv (zb C_paid_in hr rfl (zd 0 (zd 1 zh)))) (DE.dv (zb C_most_paid hr rfl (zd 0 (zu (kz PySem.F.slot_str_count PySem.F.type_str_count xx (λ_ _ _=>.int) (zn 1) v4) zh)))) (zx _)) (zf (zo y6)) z9) (zf (zo (wo zgd (DE.dv (zb C_paid_in hr rfl (zd 5 (zd 4 zh)))) (DE.dv (zb C_most_between hr rfl (zd 0 (zu (kz PySem.F.slot_str_count PySem.F.type_str_count xx (λ_ _ _=>.int) (zn 4) v4) zh)))) (zx _))))))))))),?_⟩;have eA:l.take n++l.drop n=l:=List.take_append_drop n l;have sgA:=sg.take n;have sgR:=sg.drop n;have lA:(l.take n).length=n:=by rw[List.length_take];omega
 have lR:(l.drop n).length=l.length-n:=List.length_drop;have hpd:=zb4 (a:=a) (p:=p) (b:=b) (l.take n) (l.drop n) f;have hcn:=zl9 (a:=a) (p:=p) (b:=b) (l.take n) (l.drop n) f;have hmo:pdR a p b (l.take n++97::l.drop n) f ≥ pdR a p b l f:=by
  rw[zb4,<-eA,zb4];have h1:pdR a p b (97::l.drop n) (cnR a p b (l.take n) f)=pdR a p b (l.drop n) (min (cnR a p b (l.take n) f+a) b):=by
   show _+pdR a p b (l.drop n) (yf a p b 97 _)=_;unfold yf;rw[if_pos rfl,if_pos rfl,Int.one_mul,Int.zero_add]
  have:=o.a0;have h3:=(o.cn (l.take n)).f1;have h2:=zom (b:=b) o.a0 o.p0 (l.drop n) (show cnR a p b (l.take n) f<=min (cnR a p b (l.take n) f+a) b by omega);simp only[List.take_append_drop];omega
 have hle:=zpf o.a0 o.p0 o.b0 l o.f0;have hbt:pdR a p b (l.drop n) (cnR a p b (l.take n) f)<=vP a b p ((l.drop n).count 97) (zfi a b f):=by
  have h1:=zpf o.a0 o.p0 o.b0 (l.drop n) (o.cn (l.take n)).f0;have h2:cnR a p b (l.take n) f<=zfi a b f:=by
   unfold zfi
   split
   ·exact(o.cn (l.take n)).f1
   ·have:a=0:=by have:=o.a0;omega
    subst this;exact zon o.p0 _ (Int.le_refl _)
  have h3:=zoa (a:=a) (b:=b) (show 0<p by have:=o.p0;omega) ((l.drop n).count 97) h2;omega
 rw[eA]at hpd hcn;have oA:=o.cn (l.take n);walk_at "ds";rw[zh4,zop hn,yn];generalize l.take n=A at *;generalize l.drop n=R at *;refine⟨by omega,by omega,a,p,b,f,A,rfl,o,sgA,by omega,?_⟩;rw[cni];refine⟨a,p,b,f,_,rfl,oA.f0,oA.f1,a,p,b,f,l,rfl,o,sg,by omega,a,p,b,f,A,rfl,o,sgA,by omega,a,p,b,_,R,rfl,oA,sgR,by omega,?_⟩;rw[pdi sg,pdi sgA,pdi sgR];walk_at "ds";rw[if_neg (λz=>z hpd)];refine⟨a,p,b,f,l,rfl,o,sg,by omega,a,p,b,_,R,rfl,oA,sgR,by omega,?_⟩;rw[cni,cni];walk_at "ds";rw[if_neg (λz=>z hcn)];refine⟨_,rfl,?_⟩;rw[zme oA];walk_at "ds";simp only[not_true_eq_false,if_false];refine⟨a,p,b,f,l,rfl,o,sg,by omega,a,p,b,f,l,rfl,o,sg,by omega,?_⟩;walk_at "ds";rw[pdi sg,List.length_map,zbz,zaf,uni];have hun:=zh3 (a:=a) (p:=p) (b:=b) sg 0 f;rw[if_neg (λz=>z (by omega)),zaq,vf,vf,yn,yn,yn,yn];have e3:A ++ [97]++R=A++97::R:=by simp
 have sg3:Sg (A++97::R):=by rw[<-e3];exact(sgA.app (λx hx=>.inl (List.mem_singleton.mp hx))).app sgR
 rw[e3];refine⟨by simp;omega,by simp;omega,a,p,b,f,_,rfl,o,sg3,by simp;omega,a,p,b,f,l,rfl,o,sg,by omega,?_⟩;rw[pdi sg,pdi sg3];walk_at "ds";rw[if_neg (by omega)];have c1:l.count 97<=l.length:=List.count_le_length;have c2:R.count 97<=R.length:=List.count_le_length;rw[zaf,zaf];refine⟨a,p,b,f,l,rfl,o,sg,by omega,a,p,b,f,_,rfl,o,by omega,?_⟩;rw[pdi sg];walk_at "ds";rw[if_neg (by omega)];refine⟨a,p,b,_,R,rfl,oA,sgR,by omega,a,p,b,f,_,rfl,o,by omega,?_⟩;rw[pdi sgR];walk_at "ds";rw[decide_eq_true hbt];exact q
end
section
variable {P:Program}{w:World}{K:PySem.W.Frag}{mg:Str->Option Value}{base:Heap}{f:Addr}{fd:FuncData}
theorem jx{a p b:Int}(ha:0<=a)(hp:1<=p)(hb:0<=b):∀(l:List Nat) (c n:Int),Sg l->0<=c->zcl a p b (l.map λx=>(decide (x=97),1)) c n=(cnR a p b l c,n+pdR a p b l c)
 |[],c,n,_,_=>by simp[zcl,cnR,pdR]
 |x::l,c,n,sg,hc=>by
  have sg':Sg l:=λy hy=>sg y (List.mem_cons_of_mem _ hy);rcases sg x List.mem_cons_self with rfl|rfl
  ·have ih:=jx ha hp hb l (min (c+1 * a) b) n sg' (by omega);show zcl a p b (l.map λx=>(decide (x=97),1)) (min (c+1 * a) b) n=(cnR a p b l (yf a p b 97 c),n+(_+pdR a p b l (yf a p b 97 c)))
   rw[ih];unfold yf;rw[if_pos rfl,if_pos rfl,Int.zero_add]
  ·show zcl a p b (l.map λx=>(decide (x=97),1)) (c-min 1 (c / p) * p) (n+min 1 (c / p))=(cnR a p b l (yf a p b 107 c),n+(_+pdR a p b l (yf a p b 107 c)))
   unfold yf;rw[if_neg (show ¬ (107:Nat)=97 by decide),if_neg (show ¬ (107:Nat)=97 by decide)]
   by_cases h:p<=c
   ·have h4:1<=c / p:=by rw[Int.le_ediv_iff_mul_le (by omega)];omega
    rw[if_pos h,if_pos h,show min 1 (c / p)=1 by omega,Int.one_mul,jx ha hp hb l (c-p) (n+1) sg' (by omega)];congr 1;omega
   ·have h4:c / p=0:=Int.ediv_eq_zero_of_lt hc (by omega);rw[if_neg h,if_neg h,h4,show min (1:Int) 0=0 by decide,Int.zero_mul,Int.sub_zero,Int.add_zero,Int.zero_add];exact jx ha hp hb l c n sg' hc
theorem zmf(a p b:Int):∀(l:List Nat) (c:Int),pdR a p b l c<=l.length
 |[],c=>by simp[pdR]
 |x::l,c=>by
  have:=zmf a p b l (yf a p b x c);show _+pdR a p b l (yf a p b x c)<=_;rw[List.length_cons]
  split
  ·omega
  ·split <;> omega
theorem zr8{a p b f:Int}(o:PuOk a p b f)(n:Nat):0<=vP a b p (n+1) f-vP a b p n f/\vP a b p (n+1) f-vP a b p n f<=(a+p-1) / p:=by
 rw[jt];have h:=zpc o (n+1);have p0:=o.p0;have h1:0<=cP a b p f (n+1) / p:=Int.ediv_nonneg h.1 (by omega);have h2:=Int.emod_lt_of_pos (cP a b p f n) (show 0<p by omega);have h3:cP a b p f (n+1)<=a+p-1:=by
  show min (cP a b p f n % p+a) b<=_;omega
 have h4:=Int.ediv_le_ediv (show 0<p by omega) h3;omega
def wb:DSp:=λws Q=>∃(a p b f:Int) (n:Nat),ws = [.val (pu a p b f),.val (.int n)]/\PuOk a p b f/\n<40/\Q (.val (.bool true))
theorem jg(B:Blt mg)(F:Fun K "_law_most_right" "_law_most_right" xb f fd)(C_coins_behind:Cal P w K mg base 6 "coins_behind" ["purse", "row"] (zq K xt))(C_paid_in:Cal P w K mg base 7 "paid_in" ["purse", "row"] (zq K vo))(C_unpaid_at:Cal P w K mg base 6 "unpaid_at" ["purse", "row"] (zq K xf))(C_far_behind:Cal P w K mg base 5 "far_behind" ["purse", "row"] (zq K ki))(C_most_paid:Cal P w K mg base 2 "most_paid" ["purse", "n"] (zq K xc))(C_best_row:Cal P w K mg base 3 "best_row" ["purse", "n"] (zq K zar)):FnOk P w K mg base CX0 8 f fd ["_law_purse_here", "_law_many"] (zq K wb):=by
 refine F.dok sc__law_most_right (λws Q h=>?_) (λcdv A outer s H ws Q E hr h=>?_)
 ·obtain⟨a,p,b,f,n,rfl,_⟩:=h;rfl
 obtain⟨a,p,b,f,n,rfl,o,hn,q⟩:=h;refine⟨_,(za (yi (i:=2) sc__law_most_right.nd rfl (Or.inl rfl) (DF.de (wm (zg (zb C_most_paid hr rfl (zd 0 (zd 1 zh))) (zg (zb C_most_paid hr rfl (zd 0 (zu (ya yq (zc 1) (DE.dv ze)) zh))) yd))))) (za (yk (xh (zkf zgd zgd (DE.dv ze) (DE.dv (ya v6 (DE.dv (yc (zc 2) ze (λ_ _=>rfl))) (DE.dv (yc (zc 2) ze (λ_ _=>rfl))))) (DE.dv (ya zkg (DE.dv (ya v6 (DE.dv (ya yq (DE.dv (yc (zc 0) ze (λ_ _=>rfl))) (DE.dv (yc (zc 0) ze (λ_ _=>rfl))))) (DE.dv ze))) (DE.dv (yc (zc 0) ze (λ_ _=>rfl))))))) (zf (zo y6)) z9) (za (yk (yg zet (DE.dv (ya yq (zc 1) (DE.dv (yc (zc 2) ze (λ_ _=>rfl))))) (DE.dv ze) (zx _)) (zf (zo y6)) z9) (za (yi (i:=3) sc__law_most_right.nd rfl (Or.inl rfl) (zb C_best_row hr rfl (zd 0 (zd 1 zh)))) (za (yk (DWt.dt (v5 (yg (zbk hr) (DE.dv (zb C_unpaid_at hr rfl (zd 0 (zd 3 zh)))) (DE.dv (DF.de (wm yd))) (zx _)) (v5 (yg (zbk hr) (DE.dv (zb C_paid_in hr rfl (zd 0 (zd 3 zh)))) (DE.dv (yc (zc 2) ze (λ_ _=>rfl))) (zx _)) (wn (yg (zbk hr) (DE.dv (kz PySem.F.slot_str_count PySem.F.type_str_count xx (λ_ _ _=>.int) (zn 3) v4)) (zc 1) (zx _)))))) (zf (zo y6)) z9) (za (yi (i:=4) sc__law_most_right.nd rfl (Or.inl rfl) (xw (zn 3) qx (we ze))) (za (yi (i:=5) sc__law_most_right.nd rfl (Or.inl rfl) (yw (zg (zb C_coins_behind hr rfl (zd 0 (zd 4 zh))) (zg (zb C_paid_in hr rfl (zd 0 (zd 4 zh))) yd)))) (zf (zo (wo (ziv hr) (DE.dv (zb C_far_behind hr rfl (zd 0 (zu (zcz znc rfl B.tupleT boot_tuple (zm (DE.dv (DF.de (zew rfl (N':=["_law_sign"]) (capt:=[]) (k:=1) (js:=[]) ⟨rfl,by decide,rfl,by decide,.nil,rfl,.nil,rfl,by decide⟩ (DI.w (zlf (zn 4))) (λ_ _ _ _=>(zt (i:=0) (show List.Nodup (["_law_sign"]:List Str) by decide +kernel) rfl (Or.inl rfl) (Or.inr rfl))) (λ_ _ _ _=>ji) (λ_ _ _ _=>(yw (zg (zn 0) (zg ze yd y7))))))) yb)) zh)))) (zc 5) (zx _))))))))))),?_⟩;walk_at "ds";refine⟨a,p,b,f,n,rfl,o,by omega,a,p,b,f,n+1,rfl,o,by omega,?_⟩;walk_at "ds";refine⟨_,rfl,_,rfl,?_⟩;have v1:=zr8 o n;walk_at "ds";rw[if_pos v1.1];simp only[pu];walk_at "ds";refine⟨_,rfl,_,rfl,_,rfl,?_⟩
 have:=o.a0;have:=o.a1;have:=o.p0;have:=o.p1;walk_at "ds";refine⟨⟨by omega,by omega⟩,?_⟩;rw[if_neg (λz=>z v1.2)];refine⟨_,rfl,?_⟩;walk_at "ds"
 by_cases c:200<(n:Int)+vP a b p n f
 ·rw[if_pos c];exact q
 rw[if_neg c];have sgF:Sg (vy a b p n f):=zfl n f;have hp:0<p:=by omega
 have cK:=zl6 hp o.a0 o.b0 n f o.f0;have cA:=zg5 (a:=a) (b:=b) (p:=p) n f;have lF:=zeb _ sgF;have uF:=zoo (a:=a) (b:=b) o.p0 0 (zl8 hp o.a0 o.b0 n f o.f0);refine⟨a,p,b,f,n,rfl,o,by omega,by omega,?_⟩;generalize vy a b p n f=l at *;refine⟨a,p,b,f,l,rfl,o,sgF,by omega,?_⟩;rw[uni,uF];walk_at "ds";have ln:Lay (.list []):=rfl;refine⟨ln,ln,?_⟩;rw[jl ln,if_neg (by decide)];refine⟨a,p,b,f,l,rfl,o,sgF,by omega,_,rfl,?_⟩;rw[uni,uF];walk_at "ds";rw[if_neg (λz=>z (by omega)),zaq,zaf,cA,if_neg (λz=>z rfl),yn,show(some (20:Int))=some ((20:Nat):Int) from rfl,zh4];have sgS:=sgF.take 20;have lS:(l.take 20).length<=20:=by rw[List.length_take];omega
 generalize l.take 20=m at *;refine⟨by omega,a,p,b,f,m,rfl,o,sgS,by omega,a,p,b,f,m,rfl,o,sgS,by omega,sgS.asc,by rw[zb0,List.length_map];omega,?_⟩;rw[zb0,cni,pdi sgS];refine jk (λc:Nat=>PyData.str (txL [c])) (λc=>PyData.tuple [.str (txL [c]),.int 1]) (λc hm K hK=>?_) ?_
 ·walk_at "ds";exact hK
 have em:(m.map λc=>PyData.tuple [.str (txL [c]),.int 1])=(m.map λx=>(decide (x=97),(1:Int))).map rwD:=by
  rw[List.map_map];refine List.map_congr_left λx hx=>?_;rcases sgS x hx with rfl|rfl <;> rfl
 rw[em];refine⟨a,p,b,f,_,rfl,o,λr hr=>?_,by rw[List.length_map];omega,?_⟩
 ·obtain⟨x,_,rfl⟩:=List.mem_map.mp hr;exact⟨(by decide:(0:Int)<=1),(by decide:(1:Int)<=1000000000000)⟩
 rw[jx o.a0 o.p0 o.b0 m f 0 sgS o.f0,Int.zero_add];walk_at "ds";have b1:=zfp o.a0 o.p0 o.b0 m ⟨o.f0,o.f1⟩;have b2:=zmf a p b m f;have b3:=zt1 (a:=a) (p:=p) (b:=b) m f;have:=o.b1;have ly:Lay (.tuple [.int (cnR a p b m f),.int (pdR a p b m f)]):=(Sh.tup (n:=41) (k:=0) (m:=2) (zho (Sh.intB (by omega) (by omega)) (zho (Sh.intB (by omega) (by omega)) zrf)) (Nat.le_refl 2)).lay (by decide);refine⟨ly,ly,?_⟩;rw[jl ly];exact q
end
section
variable {P:Program}{w:World}{K:PySem.W.Frag}{mg:Str->Option Value}{base:Heap}{f:Addr}{fd:FuncData}
theorem zor{xs:List Int}(h:∀x∈xs,0<=x/\x<=1000000)(hl:xs.length<=200):Lay (.list (xs.map PyData.int)):=by
 refine(Sh.lst (n:=41) (k:=0) (m:=200) (λx hx=>?_) (by rw[List.length_map];exact hl)).lay (by decide);obtain⟨i,hi,rfl⟩:=List.mem_map.mp hx;have:=h i hi;exact Sh.intB (by omega) (by omega)
theorem zpg{a p b:Int}:∀(l:List Nat) (i:Nat) (c:Int),(∀x∈unR a p b l i c,(i:Int)<=x/\x<(i:Int)+l.length)/\(unR a p b l i c).length<=l.length
 |[],i,c=>⟨λx hx=>(nomatch hx),Nat.le_refl _⟩
 |y::l,i,c=>by
  obtain⟨h1,h2⟩:=zpg (a:=a) (p:=p) (b:=b) l (i+1) (yf a p b y c);constructor
  ·intro x hx;rw[List.length_cons];rcases List.mem_append.mp hx with h|h
   ·by_cases z:y=97
    ·rw[if_pos z]at h;cases h
    ·rw[if_neg z]at h
     by_cases z2:p<=c
     ·rw[if_pos z2]at h;cases h
     ·rw[if_neg z2]at h;rw[List.mem_singleton.mp h];omega
   ·have:=h1 x h;omega
  ·show(_++unR a p b l (i+1) (yf a p b y c)).length<=_;rw[List.length_append,List.length_cons]
   split
   ·simp;omega
   ·split <;> simp <;> omega
theorem zmg{a p b:Int}{l:List Nat}{c:Int}(hl:l.length<=200):Lay (.list ((unR a p b l 0 c).map PyData.int)):=by
 obtain⟨h1,h2⟩:=zpg (a:=a) (p:=p) (b:=b) l 0 c;exact zor (λx hx=>by have:=h1 x hx;omega) (by omega)
def wk:DSp:=λws Q=>∃(a p b f a' p' b' f':Int) (l:List Nat),ws = [.val (pu a p b f),.val (pu a' p' b' f'),.val (.str (txL l))]/\PuOk a p b f/\PuOk a' p' b' f'/\b<=40/\b'<=40/\Sg l/\l.length<=100/\Q (.val (.bool true))
theorem jy(B:Blt mg)(F:Fun K "_law_two_right" "_law_two_right" xn f fd)(C_paid_in:Cal P w K mg base 7 "paid_in" ["purse", "row"] (zq K vo))(C_unpaid_at:Cal P w K mg base 6 "unpaid_at" ["purse", "row"] (zq K xf))(C_parts:Cal P w K mg base 5 "parts" ["one", "other", "thing"] (zq K zfs))(C_parted_by:Cal P w K mg base 3 "parted_by" ["one", "other"] (zq K vr)):FnOk P w K mg base CX0 8 f fd ["_law_one", "_law_other", "_law_row"] (zq K wk):=by
 refine F.dok sc__law_two_right (λws Q h=>?_) (λcdv A outer s H ws Q E hr h=>?_)
 ·obtain⟨a,p,b,f,a',p',b',f',l,rfl,_⟩:=h;rfl
 obtain⟨a,p,b,f,a',p',b',f',l,rfl,o,o',h4,h4',sg,hl,q⟩:=h;refine⟨_,(za (yi (i:=3) sc__law_two_right.nd rfl (Or.inl rfl) (zb C_parted_by hr rfl (zd 0 (zd 1 zh)))) (za (yk (yg ztk (zc 3) (DE.dv zgb) (zx _)) (zf (zo (wo (ziv hr) (DE.dv (zb C_unpaid_at hr rfl (zd 0 (zd 2 zh)))) (DE.dv (zb C_unpaid_at hr rfl (zd 1 (zd 2 zh)))) (zx _)))) z9) (za (yk (DWt.dt (v5 (yg zgq (DE.dv (zb C_parts hr rfl (zd 0 (zd 1 (zd 3 zh))))) (DE.dv y6) (zx _)) (wn (yg zgq (DE.dv (zb C_parts hr rfl (zd 1 (zd 0 (zd 3 zh))))) (DE.dv y6) (zx _))))) (zf (zo y6)) z9) (za (yk (yg zet (DE.dv (zy w4 rfl B.len PySem.boot_len (zm (zc 3) yb))) (DE.dv ze) (zx _)) (zf (zo y6)) z9) (za (yk (yg (zbk hr) (DE.dv (zb C_unpaid_at hr rfl (zd 0 (zu (xw (zn 3) qx (we (zbj ze))) zh)))) (DE.dv (zb C_unpaid_at hr rfl (zd 1 (zu (xw (zn 3) qx (we (zbj ze))) zh)))) (zx _)) (zf (zo y6)) z9) (zf (zo (wo (ziv hr) (DE.dv (zy ztm rfl B.abs boot_abs (zm (DE.dv (ya v6 (DE.dv (zb C_paid_in hr rfl (zd 0 (zd 3 zh)))) (DE.dv (zb C_paid_in hr rfl (zd 1 (zd 3 zh)))))) yb))) (DE.dv ze) (zx _))))))))),?_⟩;walk_at "ds";refine⟨a,p,b,f,a',p',b',f',rfl,o,o',by omega,by omega,λr sr lr pre dif=>?_,λal=>?_⟩
 ·walk_at "ds";have sg2:Sg (r ++ [107]):=sr.app (λx hx=>.inr (List.mem_singleton.mp hx));have d1:decide (p<=cnR a p b r f)≠decide (p'<=cnR a' p' b' r f'):=dif;have e1:(decide (p<=cnR a p b r f) != decide (p'<=cnR a' p' b' r f'))=true:=bne_iff_ne.mpr d1;have e2:(decide (p'<=cnR a' p' b' r f') != decide (p<=cnR a p b r f))=true:=bne_iff_ne.mpr (Ne.symm d1);refine⟨a,p,b,f,a',p',b',f',r,rfl,o,o',sr,by omega,?_⟩;rw[e1];walk_at "ds";simp only[not_true_eq_false,if_false];refine⟨a',p',b',f',a,p,b,f,r,rfl,o',o,sr,by omega,?_⟩;rw[e2];walk_at "ds";simp only[not_true_eq_false,if_false];rw[yn,zh5];have l2:(r ++ [107]).length=r.length+1:=by simp
  rw[l2];refine⟨by omega,?_⟩
  by_cases c:200<((r.length+1:Nat):Int)
  ·rw[if_pos c];exact q
  rw[if_neg c];refine⟨by omega,a,p,b,f,r,rfl,o,sr,by omega,by omega,a',p',b',f',r,rfl,o',sr,by omega,?_⟩;have ue:=zfq r 0 pre;rw[uni,uni,ue];walk_at "ds";have ly:=zmg (a:=a') (p:=p') (b:=b') (l:=r) (c:=f') (by omega);refine⟨ly,ly,?_⟩;rw[jl ly,if_neg (by decide)];refine⟨a,p,b,f,_,rfl,o,sg2,by rw[l2];omega,a',p',b',f',_,rfl,o',sg2,by rw[l2];omega,?_⟩;rw[pdi sg2,pdi sg2,zb4,zb4];have u1:=zh3 (a:=a) (p:=p) (b:=b) sr 0 f;have u2:=zh3 (a:=a') (p:=p') (b:=b') sr 0 f';rw[ue]at u1;have one:∀(a p b c:Int),pdR a p b [107] c=if p<=c then 1 else 0:=λa p b c=>by
   show(if (107:Nat)=97 then 0 else if p<=c then 1 else 0)+0=_;rw[if_neg (by decide),Int.add_zero]
  rw[one,one];walk_at "ds";have fin:(if (pdR a p b r f+if p<=cnR a p b r f then 1 else 0)-(pdR a' p' b' r f'+if p'<=cnR a' p' b' r f' then 1 else 0)<0 then -((pdR a p b r f+if p<=cnR a p b r f then 1 else 0)-(pdR a' p' b' r f'+if p'<=cnR a' p' b' r f' then 1 else 0)) else (pdR a p b r f+if p<=cnR a p b r f then 1 else 0)-(pdR a' p' b' r f'+if p'<=cnR a' p' b' r f' then 1 else 0))=1:=by
   by_cases x:p<=cnR a p b r f
   ·by_cases y:p'<=cnR a' p' b' r f'
    ·exact absurd (by rw[decide_eq_true x,decide_eq_true y]) d1
    ·rw[if_pos x,if_neg y];split <;> omega
   ·by_cases y:p'<=cnR a' p' b' r f'
    ·rw[if_neg x,if_pos y];split <;> omega
    ·exact absurd (by rw[decide_eq_false x,decide_eq_false y]) d1
  rw[fin,decide_eq_true rfl];exact q
 ·walk_at "ds";refine⟨a,p,b,f,l,rfl,o,sg,by omega,a',p',b',f',l,rfl,o',sg,by omega,?_⟩;rw[uni,uni,zfq (a':=a') (p':=p') (b':=b') (f':=f') l 0 λr s e _=>al r λx hx=>sg x (by rw[e];exact List.mem_append_left _ hx)];walk_at "ds";have ly:=zmg (a:=a') (p:=p') (b:=b') (l:=l) (c:=f') (by omega);refine⟨ly,ly,?_⟩;rw[jl ly];exact q
end
section
variable {P:Program}{w:World}{K:PySem.W.Frag}{mg:Str->Option Value}{base:Heap}{f:Addr}{fd:FuncData}
theorem zas:∀ls:List (List Nat),Str.join (Str.ofString "") (ls.map txL)=txL ls.flatten
 |[]=>rfl
 |[l]=>by simp[Str.join]
 |l::m::ls=>by
  have ih:=zas (m::ls);show txL l++Str.ofString "" ++ Str.join (Str.ofString "") ((m::ls).map txL)=_;rw[ih,show Str.ofString "" = txL [] by decide +kernel,vf,vf];simp
theorem zft:∀ys:List D,(∀y∈ys,∃x:Nat,y=.str (txL [x])/\(x=97\/x=107))->∃l:List Nat,ys=l.map (λx=>PyData.str (txL [x]))/\Sg l
 |[],_=>⟨[],rfl,λx hx=>(nomatch hx)⟩
 |y::ys,h=>by
  obtain⟨x,rfl,hx⟩:=h y List.mem_cons_self;obtain⟨l,rfl,sg⟩:=zft ys λz hz=>h z (List.mem_cons_of_mem _ hz);refine⟨x::l,rfl,λz hz=>?_⟩;rcases List.mem_cons.mp hz with rfl|hz
  ·exact hx
  ·exact sg z hz
theorem zg8(l:List Nat):Txt.join (Str.ofString "") (l.map λx=>txL [x])=txL l:=by
 rw[show Txt.join (Str.ofString "") (l.map λx=>txL [x])=Str.join (Str.ofString "") (l.map λx=>txL [x]) from StrLaws.glued_eq_join _ _];have:=zas (l.map λx=>[x]);rw[List.map_map]at this;refine this.trans ?_;congr 1;clear this
 induction l with
 |nil=>rfl
 |cons x l ih=>rw[List.map_cons,List.flatten_cons,ih];rfl
theorem zsa:(Str.ofString "ak")=txL [97,107]:=by decide +kernel
theorem zsb(B:Blt mg)(F:Fun K "law" "law" zly f fd)(C_parted_by:Cal P w K mg base 3 "parted_by" ["one", "other"] (zq K vr))(C_later:Cal P w K mg base 3 "later" ["purse", "coins"] (zq K zb7))(C__law_cell_at:Cal P w K mg base 1 "_law_cell_at" ["_law_script", "_law_k"] (zq K vt))(C__law_pen_of:Cal P w K mg base 1 "_law_pen_of" ["_law_cell"] (zq K qm))(C__law_draw:Cal P w K mg base 2 "_law_draw" ["_law_pen", "_law_many"] (zq K y3))(C__law_purse:Cal P w K mg base 3 "_law_purse" ["_law_pen"] (zq K ke))(C__law_small:Cal P w K mg base 3 "_law_small" ["_law_pen", "_law_most"] (zq K kg))(C__law_row_right:Cal P w K mg base 8 "_law_row_right" ["_law_purse_here", "_law_row", "_law_at"] (zq K wj))(C__law_most_right:Cal P w K mg base 8 "_law_most_right" ["_law_purse_here", "_law_many"] (zq K wb))(C__law_two_right:Cal P w K mg base 8 "_law_two_right" ["_law_one", "_law_other", "_law_row"] (zq K wk)):FnOk P w K mg base CX0 9 f fd ["_law_script"] (zq K zd4):=by
 refine F.dok sc_law (λws Q h=>?_) (λcdv A outer s H ws Q E hr h=>?_)
 ·obtain⟨ns,rfl,_⟩:=h;rfl
 obtain⟨ns,rfl,h63,q⟩:=h;refine⟨_,(za (zbp PassesOwn.never rfl (zdo (ya yq (DE.dv (DF.de (wm (zg (zb C__law_cell_at hr rfl (zd 0 (zu ze zh y7))) yd)))) (DE.dv (DF.de (zqy 0 (we ze) (we ze)))))) (zt (i:=1) sc_law.nd rfl (Or.inl rfl)) (za (znl (i:=2) sc_law.nd rfl (Or.inr rfl) (znh C__law_pen_of hr rfl (zd 1 zh))) (za (znm (i:=3) (j:=4) (k:=5) rfl sc_law.nd rfl rfl rfl (by decide) (by decide) (by decide) rfl rfl rfl (zg (zb C__law_purse hr rfl (zd 2 zh)) (zg (zb C__law_small hr rfl (zd 2 (zu ze zh y7))) (zg (zb C__law_small hr rfl (zd 2 (zu ze zh y7))) yd))) rfl) (za (yi (i:=6) sc_law.nd rfl (Or.inl rfl) (zli v4 (DE.dv (DF.de (zew rfl (N':=["_law_turn", "_law_pen"]) (capt:=["_law_pen"]) (k:=1) (js:=[2]) ⟨rfl,by decide,rfl,by decide,(.cons rfl .nil),rfl,(.cons rfl (Or.inl rfl) rfl (Or.inl rfl) .nil),rfl,by decide⟩ (DI.w (zix rfl B.range (zg (zb C__law_draw hr rfl (zd 2 (zu ze zh y7))) yd))) (λ_ _ _ _=>(zt (i:=0) (show List.Nodup (["_law_turn", "_law_pen"]:List Str) by decide +kernel) rfl (Or.inl rfl) (Or.inr rfl))) (λ_ _ _ _=>ji) (λ_ _ _ _=>(yc (DE.dv v4) (zb C__law_draw hr rfl (zd 1 (zu ze zh y7))) (λ_ _=>rfl)))))))) (za (zkz (i:=7) (j:=8) rfl sc_law.nd rfl rfl (by decide) rfl rfl (zg (zb C__law_draw hr rfl (zd 2 (zu (ya yq (DE.dv (zy w4 rfl B.len PySem.boot_len (zm (zc 6) yb))) (DE.dv ze)) zh))) (zg (zb C__law_draw hr rfl (zd 2 (zu ze zh y7))) yd)) rfl) (za (zbp PassesOwn.never rfl (zdo (yw (zg (zn 3) (zg (zn 4) (zg (zn 5) yd))))) (zt (i:=9) sc_law.nd rfl (Or.inl rfl)) (zf (yk (DWt.dt (v5 (xh (xi (DE.dv (zb C__law_row_right hr rfl (zd 9 (zd 6 (zd 7 zh))))))) (wn (xh (xi (DE.dv (zb C__law_most_right hr rfl (zd 9 (zd 8 zh))))))))) (zf (zo y6)) z9))) (za (yk (DWt.dt (v5 (xh (xi (DE.dv (zb C__law_two_right hr rfl (zd 4 (zd 5 (zd 6 zh))))))) (wn (xh (xi (DE.dv (zb C__law_two_right hr rfl (zd 4 (zu (zb C_later hr rfl (zd 4 (zu ze zh y7))) (zd 6 zh)))))))))) (zf (zo y6)) z9) (zf (yk (yg zqq (DE.dv (zb C_parted_by hr rfl (zd 4 (zd 4 zh)))) (DE.dv zgb) (zx _)) (zf (zo y6)) z9))))))))) (zf (zo y6))),?_⟩
 walk_at "ds";refine⟨ns,0,rfl,by decide,λv=>?_⟩;obtain⟨ys,ey,_,hy⟩:=zgo PyData.int ns (some 1) (some 4);rw[ey,List.length_map];refine⟨by omega,?_⟩;walk_at "ds";refine w5 (λds σ=>∃(vs:List Int) (u1 u2 u3 u4 u5 u6 u7 u8 u9:Option W),ds=vs.map PyData.int/\σ = [some (.scr ns),u1,u2,u3,u4,u5,u6,u7,u8,u9]) ?_ ?_ ⟨v::ys,none,none,none,none,none,none,none,none,none,rfl,rfl⟩
 ·rintro d ds σ N ⟨vs,u1,u2,u3,u4,u5,u6,u7,u8,u9,e,rfl⟩ k
  cases vs with
  |nil=>cases e
  |cons v vs=>
   cases e;refine qy (λσ=>σ = [some (.scr ns),some (.val (.int v)),some .pen,u3,u4,u5,u6,u7,u8,u9]) (λN' hN=>?_) ?_
   ·walk_at "ds";refine⟨_,rfl,λa b c=>?_⟩;walk_at "ds";exact⟨⟨a,b,c,rfl⟩,hN _ rfl⟩
   rintro σ rfl;refine qy (λσ=>∃(a p b f a1 p1 b1 f1 a2 p2 b2 f2:Int),PuOk a p b f/\PuOk a1 p1 b1 f1/\PuOk a2 p2 b2 f2/\b1<=40/\b2<=40/\σ = [some (.scr ns),some (.val (.int v)),some .pen,some (.val (pu a p b f)),some (.val (pu a1 p1 b1 f1)),some (.val (pu a2 p2 b2 f2)),u6,u7,u8,u9]) (λN' hN=>?_) ?_
   ·walk_at "ds";refine⟨rfl,λa p b f o=>?_⟩;walk_at "ds";refine⟨_,rfl,by decide,by decide,λa1 p1 b1 f1 o1 h1 _ _=>?_⟩;walk_at "ds";refine⟨_,rfl,by decide,by decide,λa2 p2 b2 f2 o2 h2 _ _=>?_⟩;walk_at "ds";exact hN _ ⟨a,p,b,f,a1,p1,b1,f1,a2,p2,b2,f2,o,o1,o2,h1,h2,rfl⟩
   rintro σ ⟨a,p,b,f,a1,p1,b1,f1,a2,p2,b2,f2,o,o1,o2,h1,h2,rfl⟩;refine qy (λσ=>∃l:List Nat,Sg l/\l.length<=100/\σ = [some (.scr ns),some (.val (.int v)),some .pen,some (.val (pu a p b f)),some (.val (pu a1 p1 b1 f1)),some (.val (pu a2 p2 b2 f2)),some (.val (.str (txL l))),u7,u8,u9]) (λN' hN=>?_) ?_
   ·walk_at "ds";refine x0 (by first|decide|omega) (by first|decide|omega) λg lg hg=>?_;walk_at "ds";refine⟨⟨by omega,by omega⟩,by rw[zgp];omega,zgn (λy=>∃x:Nat,y=.str (txL [x])/\(x=97\/x=107)) (λd k hk=>?_) λys hl hys=>?_⟩
    ·walk_at "ds";refine x0 (by first|decide|omega) (by first|decide|omega) λs ls hs=>?_;walk_at "ds";rw[zsa,yn];refine⟨by simp,?_⟩;have:s=0\/s=1:=by omega
     rcases this with rfl|rfl
     ·exact⟨97,rfl,hk _ ⟨97,rfl,.inl rfl⟩⟩
     ·exact⟨107,rfl,hk _ ⟨107,rfl,.inr rfl⟩⟩
    ·obtain⟨l,rfl,sg⟩:=zft ys hys;rw[List.length_map]at hl;refine⟨l.map λx=>txL [x],by rw[List.map_map];rfl,?_,?_⟩
     ·unfold JoinOk;rw[StrLaws.joinFits (B:=1) (λy hy=>by obtain⟨x,_,rfl⟩:=List.mem_map.mp hy;rw[yn];simp) (by rw[List.length_map,show(Str.ofString "").length=0 by decide +kernel];omega)];rfl
     ·rw[zg8];exact hN _ ⟨l,sg,by omega,rfl⟩
   rintro σ ⟨l,sg,hl,rfl⟩;refine qy (λσ=>∃n m:Nat,n<=l.length/\m<40/\σ = [some (.scr ns),some (.val (.int v)),some .pen,some (.val (pu a p b f)),some (.val (pu a1 p1 b1 f1)),some (.val (pu a2 p2 b2 f2)),some (.val (.str (txL l))),some (.val (.int n)),some (.val (.int m)),u9]) (λN' hN=>?_) ?_
   ·walk_at "ds";rw[yn];refine⟨by omega,?_⟩;refine x0 (by first|decide|omega) (by first|decide|omega) λn ln hn=>?_;walk_at "ds";refine x0 (by first|decide|omega) (by first|decide|omega) λm lm hm=>?_;walk_at "ds";obtain⟨n,rfl⟩:=Int.eq_ofNat_of_zero_le ln;obtain⟨m,rfl⟩:=Int.eq_ofNat_of_zero_le lm;exact hN _ ⟨n,m,by omega,by omega,rfl⟩
   rintro σ ⟨n,m,hn,hm,rfl⟩;refine qy (λσ=>∃u9,σ = [some (.scr ns),some (.val (.int v)),some .pen,some (.val (pu a p b f)),some (.val (pu a1 p1 b1 f1)),some (.val (pu a2 p2 b2 f2)),some (.val (.str (txL l))),some (.val (.int n)),some (.val (.int m)),u9]) (λN' hN=>?_) ?_
   ·walk_at "ds";refine zk4 (λσ=>∃u9,σ = [some (.scr ns),some (.val (.int v)),some .pen,some (.val (pu a p b f)),some (.val (pu a1 p1 b1 f1)),some (.val (pu a2 p2 b2 f2)),some (.val (.str (txL l))),some (.val (.int n)),some (.val (.int m)),u9]) ⟨_,rfl⟩ ?_ ?_
    ·rintro d hd σ N2 ⟨u9,rfl⟩ k2
     have hpu:∃x y z w:Int,d=pu x y z w/\PuOk x y z w:=by
      simp only[List.mem_cons,List.not_mem_nil,or_false]at hd;rcases hd with rfl|rfl|rfl
      ·exact⟨_,_,_,_,rfl,o⟩
      ·exact⟨_,_,_,_,rfl,o1⟩
      ·exact⟨_,_,_,_,rfl,o2⟩
     obtain⟨x,y,z,w,rfl,ox⟩:=hpu;walk_at "ds";refine⟨x,y,z,w,l,n,rfl,ox,sg,hl,hn,?_⟩;walk_at "ds";refine⟨x,y,z,w,m,rfl,ox,hm,?_⟩;walk_at "ds";exact k2 _ ⟨_,rfl⟩
    ·rintro σ ⟨u9,rfl⟩;exact hN _ ⟨_,rfl⟩
   rintro σ ⟨u9,rfl⟩;walk_at "ds";refine⟨a1,p1,b1,f1,a2,p2,b2,f2,l,rfl,o1,o2,h1,h2,sg,hl,?_⟩;walk_at "ds";refine⟨a1,p1,b1,f1,0,rfl,by decide,o1.b0,a1,p1,b1,f1,a1,p1,b1,0,l,rfl,o1,⟨o1.a0,o1.a1,o1.p0,o1.p1,o1.b0,o1.b1,by decide,o1.b0⟩,h1,h1,sg,hl,?_⟩;walk_at "ds";refine⟨a1,p1,b1,f1,a1,p1,b1,f1,rfl,o1,o1,by omega,by omega,λr _ _ _ z=>absurd rfl z,λ_=>?_⟩;walk_at "ds";exact k _ ⟨vs,_,_,_,_,_,_,_,_,_,rfl,rfl⟩
 ·rintro σ ⟨vs,u1,u2,u3,u4,u5,u6,u7,u8,u9,e,rfl⟩;walk_at "ds";exact q
end
theorem zu2{us:List Value}(h:us.length=0):us = []:=List.eq_nil_of_length_eq_zero h
theorem zmh{us:List Value}(h:us.length=1):∃a0,us = [a0]:=by
 cases us with
 |nil=>cases h
 |cons a t=>
  obtain rfl:=zu2 (Nat.succ.inj h);exact⟨a,rfl⟩
theorem zsc{us:List Value}(h:us.length=2):∃a0 a1,us = [a0,a1]:=by
 cases us with
 |nil=>cases h
 |cons a t=>
  obtain⟨a1,rfl⟩:=zmh (Nat.succ.inj h);exact⟨a,a1,rfl⟩
theorem zu3{us:List Value}(h:us.length=3):∃a0 a1 a2,us = [a0,a1,a2]:=by
 cases us with
 |nil=>cases h
 |cons a t=>
  obtain⟨a1,a2,rfl⟩:=zsc (Nat.succ.inj h);exact⟨a,a1,a2,rfl⟩
theorem cal(P:Program)(w:World)(base:Heap){K:PySem.W.Frag}{h:Heap}{mg:Str->Option Value}{x:Str}{st:Stmt}{k:Nat}{ps:List Str}{sp:Sp}(X:K.In h)(G:h.Ns mainGlobals mg)(p:yx K x st)(ok:∀(f:Addr) (fd:FuncData),Fun K x x st f fd->FnOk P w K mg base CX0 k f fd ps sp)(hb:∀us:List Value,us.length=ps.length->∀(kV doc pm:Value) (an:Option Addr) (cdv ct:Value),bindArgs (PySem.W.fnOf x x (y8 st) (yv st) (zi st) .none kV doc pm an cdv ct) ⟨us,[]⟩=pure (ps.zip us)):j3 P w K mg base k x ps sp :=
 let ⟨f,fd,a,F⟩:=p;⟨f,fd,ok f fd F,F.binds λa b c d e g us hl=>hb us hl a b c d e g,F.kp,PySem.W.mg_of X G a⟩
theorem zfu{p:List Value->Prop}(h:∀a0,p [a0])(us:List Value)(hl:us.length=1):p us:=by
 obtain⟨a0,rfl⟩:=zmh hl;exact h a0
theorem qu{p:List Value->Prop}(h:∀a0 a1,p [a0,a1])(us:List Value)(hl:us.length=2):p us:=by
 obtain⟨a0,a1,rfl⟩:=zsc hl;exact h a0 a1
theorem zg9{p:List Value->Prop}(h:∀a0 a1 a2,p [a0,a1,a2])(us:List Value)(hl:us.length=3):p us:=by
 obtain⟨a0,a1,a2,rfl⟩:=zu3 hl;exact h a0 a1 a2
theorem all_mk{l:PySem.W.OpenLaw}{w:World}{K:PySem.W.Frag}{h:Heap}{mg:Str->Option Value}{fa  : Addr}(X:K.In h)(G:h.Ns mainGlobals mg)(hfa:mg "law" = some (.ref fa))
  (p0:yx K "is_whole" k6)
  (p1:yx K "whole_in" k7)
  (p2:yx K "wholes_in" qg)
  (p3:yx K "purse_good" vh)
  (p4:yx K "coins_asked" wv)
  (p5:yx K "can_pay" zah)
  (p6:yx K "coins_by" k8)
  (p7:yx K "signs_good" vi)
  (p8:yx K "gone_by" zai)
  (p9:yx K "gone_by_row" ww)
  (p10:yx K "coins_behind" x3)
  (p11:yx K "paid_in" zaj)
  (p12:yx K "unpaid_at" qh)
  (p13:yx K "many_deeds_good" xa)
  (p14:yx K "long_row_good" xr)
  (p15:yx K "far_behind" vj)
  (p16:yx K "most_paid" qi)
  (p17:yx K "going_round" wx)
  (p18:yx K "best_row" ja)
  (p19:yx K "most_between" x4)
  (p20:yx K "parts" zd0)
  (p21:yx K "parted_by" qj)
  (p22:yx K "later" zd1)
  (p23:yx K "_law_cell_at" x5)
  (p24:yx K "_law_next" qk)
  (p25:yx K "_law_pen_of" wy)
  (p26:yx K "_law_draw" ql)
  (p27:yx K "_law_purse" vk)
  (p28:yx K "_law_small" vm)
  (p29:yx K "_law_row_right" xm)
  (p30:yx K "_law_most_right" xb)
  (p31:yx K "_law_two_right" xn)
  (p32:yx K "law" zly)
  (z_len:PySem.W.nsIn K mainGlobals "len" = some none)
  (z_range:PySem.W.nsIn K mainGlobals "range" = some none)
  (z_enumerate:PySem.W.nsIn K mainGlobals "enumerate" = some none)
  (z_min:PySem.W.nsIn K mainGlobals "min" = some none)
  (z_max:PySem.W.nsIn K mainGlobals "max" = some none)
  (z_isinstance:PySem.W.nsIn K mainGlobals "isinstance" = some none)
  (z_all:PySem.W.nsIn K mainGlobals "all" = some none)
  (z_zip:PySem.W.nsIn K mainGlobals "zip" = some none)
  (z_abs:PySem.W.nsIn K mainGlobals "abs" = some none)
  (z_divmod:PySem.W.nsIn K mainGlobals "divmod" = some none)
  (z_tupleT:PySem.W.nsIn K mainGlobals "tuple" = some none)
  (z_intT:PySem.W.nsIn K mainGlobals "int" = some none)
  (z_strT:PySem.W.nsIn K mainGlobals "str" = some none)
  (z_boolT:PySem.W.nsIn K mainGlobals "bool" = some none)
  {gt_PURSE_BOUNDS_0_0:Tok}{gt_PURSE_BOUNDS_0_1:Tok}{ga_PURSE_BOUNDS_0:Addr}{gn_PURSE_BOUNDS_0:Nat}{gs_PURSE_BOUNDS_0:Array (Option Value)} (yl_PURSE_BOUNDS_0:K.lookup ga_PURSE_BOUNDS_0=some ⟨.type "tuple",none,.seq #[.int 0 gt_PURSE_BOUNDS_0_0,.int 1000 gt_PURSE_BOUNDS_0_1] gn_PURSE_BOUNDS_0,gs_PURSE_BOUNDS_0⟩) {gt_PURSE_BOUNDS_1_0:Tok}{gt_PURSE_BOUNDS_1_1:Tok}{ga_PURSE_BOUNDS_1:Addr}{gn_PURSE_BOUNDS_1:Nat}{gs_PURSE_BOUNDS_1:Array (Option Value)} (yl_PURSE_BOUNDS_1:K.lookup ga_PURSE_BOUNDS_1=some ⟨.type "tuple",none,.seq #[.int 1 gt_PURSE_BOUNDS_1_0,.int 1000 gt_PURSE_BOUNDS_1_1] gn_PURSE_BOUNDS_1,gs_PURSE_BOUNDS_1⟩) {gt_PURSE_BOUNDS_2_0:Tok}{gt_PURSE_BOUNDS_2_1:Tok}{ga_PURSE_BOUNDS_2:Addr}{gn_PURSE_BOUNDS_2:Nat}{gs_PURSE_BOUNDS_2:Array (Option Value)} (yl_PURSE_BOUNDS_2:K.lookup ga_PURSE_BOUNDS_2=some ⟨.type "tuple",none,.seq #[.int 0 gt_PURSE_BOUNDS_2_0,.int 10000 gt_PURSE_BOUNDS_2_1] gn_PURSE_BOUNDS_2,gs_PURSE_BOUNDS_2⟩) {gt_PURSE_BOUNDS_3_0:Tok}{gt_PURSE_BOUNDS_3_1:Tok}{ga_PURSE_BOUNDS_3:Addr}{gn_PURSE_BOUNDS_3:Nat}{gs_PURSE_BOUNDS_3:Array (Option Value)} (yl_PURSE_BOUNDS_3:K.lookup ga_PURSE_BOUNDS_3=some ⟨.type "tuple",none,.seq #[.int 0 gt_PURSE_BOUNDS_3_0,.int 10000 gt_PURSE_BOUNDS_3_1] gn_PURSE_BOUNDS_3,gs_PURSE_BOUNDS_3⟩) {ga_PURSE_BOUNDS:Addr}{gn_PURSE_BOUNDS:Nat}{gs_PURSE_BOUNDS:Array (Option Value)} (yl_PURSE_BOUNDS:K.lookup ga_PURSE_BOUNDS=some ⟨.type "tuple",none,.seq #[.ref ga_PURSE_BOUNDS_0,.ref ga_PURSE_BOUNDS_1,.ref ga_PURSE_BOUNDS_2,.ref ga_PURSE_BOUNDS_3] gn_PURSE_BOUNDS,gs_PURSE_BOUNDS⟩)
  (y_PURSE_BOUNDS:PySem.W.nsIn K mainGlobals "PURSE_BOUNDS" = some (some (.ref ga_PURSE_BOUNDS)))
  {t_ASK:Tok} (y_ASK:PySem.W.nsIn K mainGlobals "ASK" = some (some (.str "a" t_ASK)))
  {t_KNOCK:Tok} (y_KNOCK:PySem.W.nsIn K mainGlobals "KNOCK" = some (some (.str "k" t_KNOCK)))
  {t_MOST_DEEDS:Tok} (y_MOST_DEEDS:PySem.W.nsIn K mainGlobals "MOST_DEEDS" = some (some (.int 200 t_MOST_DEEDS)))
  {t_MOST_TUPLES:Tok} (y_MOST_TUPLES:PySem.W.nsIn K mainGlobals "MOST_TUPLES" = some (some (.int 20 t_MOST_TUPLES)))
  {t_MOST_MANY:Tok} (y_MOST_MANY:PySem.W.nsIn K mainGlobals "MOST_MANY" = some (some (.int 1000000000000 t_MOST_MANY)))
  {t_MOST_CAP:Tok} (y_MOST_CAP:PySem.W.nsIn K mainGlobals "MOST_CAP" = some (some (.int 60 t_MOST_CAP)))
  {c_Purse:Addr} (xa_Purse:PySem.W.nsIn K mainGlobals "Purse" = some (some (.ref c_Purse)))
  (xpg_Purse:PySem.W.plainGet K c_Purse Str.empty=true)
  (xhd_Purse:PySem.W.hasDictIn K c_Purse=true)
  (xpo_Purse:PySem.W.plainOver K c_Purse=true)
  (xsa_Purse:PySem.W.findIn K (.ref c_Purse) "__setattr__" = some (some (.builtin "object.__setattr__")))
  (xmk_Purse:PySem.W.makesIn K c_Purse=true)
  (xkc_Purse:PySem.W.keepIn K (.ref c_Purse)=true)
  (xnf_Purse_purse:PySem.W.findIn K (.ref c_Purse) "purse" = some none)
  (xnf_Purse_coins:PySem.W.findIn K (.ref c_Purse) "coins" = some none)
  {i_Purse____init__:Addr} (xj_Purse____init__:PySem.W.findIn K (.ref c_Purse) "__init__" = some (some (.ref i_Purse____init__)))
  (xi_Purse____init__:PySem.W.isFn K (.ref i_Purse____init__)=true)
  {xod_Purse____init__ xan_Purse____init__:Option Addr}{xsl_Purse____init__:Array (Option Value)}{xoc_Purse____init__ xkV_Purse____init__ xdc_Purse____init__ xpm_Purse____init__ xcd_Purse____init__ xct_Purse____init__:Value} (xl_Purse____init__:K.lookup i_Purse____init__=some ⟨xoc_Purse____init__,xod_Purse____init__,.func (PySem.W.fnOf "__init__" "Purse.__init__" (y8 yj) (yv yj) (zi yj) .none xkV_Purse____init__ xdc_Purse____init__ xpm_Purse____init__ xan_Purse____init__ xcd_Purse____init__ xct_Purse____init__),xsl_Purse____init__⟩)
  (xw_Purse____init__:PySem.W.codeIn K xcd_Purse____init__ "Purse.__init__" = true)
  (xy_Purse____init__:PySem.W.keepIn K (.ref i_Purse____init__)=true)
  {i_Purse__ask:Addr} (xj_Purse__ask:PySem.W.findIn K (.ref c_Purse) "ask" = some (some (.ref i_Purse__ask)))
  (xi_Purse__ask:PySem.W.isFn K (.ref i_Purse__ask)=true)
  {xod_Purse__ask xan_Purse__ask:Option Addr}{xsl_Purse__ask:Array (Option Value)}{xoc_Purse__ask xkV_Purse__ask xdc_Purse__ask xpm_Purse__ask xcd_Purse__ask xct_Purse__ask:Value} (xl_Purse__ask:K.lookup i_Purse__ask=some ⟨xoc_Purse__ask,xod_Purse__ask,.func (PySem.W.fnOf "ask" "Purse.ask" (y8 y4) (yv y4) (zi y4) .none xkV_Purse__ask xdc_Purse__ask xpm_Purse__ask xan_Purse__ask xcd_Purse__ask xct_Purse__ask),xsl_Purse__ask⟩)
  (xw_Purse__ask:PySem.W.codeIn K xcd_Purse__ask "Purse.ask" = true)
  (xy_Purse__ask:PySem.W.keepIn K (.ref i_Purse__ask)=true)
  {i_Purse__knock:Addr} (xj_Purse__knock:PySem.W.findIn K (.ref c_Purse) "knock" = some (some (.ref i_Purse__knock)))
  (xi_Purse__knock:PySem.W.isFn K (.ref i_Purse__knock)=true)
  {xod_Purse__knock xan_Purse__knock:Option Addr}{xsl_Purse__knock:Array (Option Value)}{xoc_Purse__knock xkV_Purse__knock xdc_Purse__knock xpm_Purse__knock xcd_Purse__knock xct_Purse__knock:Value} (xl_Purse__knock:K.lookup i_Purse__knock=some ⟨xoc_Purse__knock,xod_Purse__knock,.func (PySem.W.fnOf "knock" "Purse.knock" (y8 yr) (yv yr) (zi yr) .none xkV_Purse__knock xdc_Purse__knock xpm_Purse__knock xan_Purse__knock xcd_Purse__knock xct_Purse__knock),xsl_Purse__knock⟩)
  (xw_Purse__knock:PySem.W.codeIn K xcd_Purse__knock "Purse.knock" = true)
  (xy_Purse__knock:PySem.W.keepIn K (.ref i_Purse__knock)=true)
  {i_Purse__held:Addr} (xj_Purse__held:PySem.W.findIn K (.ref c_Purse) "held" = some (some (.ref i_Purse__held)))
  (xi_Purse__held:PySem.W.isFn K (.ref i_Purse__held)=true)
  {xod_Purse__held xan_Purse__held:Option Addr}{xsl_Purse__held:Array (Option Value)}{xoc_Purse__held xkV_Purse__held xdc_Purse__held xpm_Purse__held xcd_Purse__held xct_Purse__held:Value} (xl_Purse__held:K.lookup i_Purse__held=some ⟨xoc_Purse__held,xod_Purse__held,.func (PySem.W.fnOf "held" "Purse.held" (y8 yt) (yv yt) (zi yt) .none xkV_Purse__held xdc_Purse__held xpm_Purse__held xan_Purse__held xcd_Purse__held xct_Purse__held),xsl_Purse__held⟩)
  (xw_Purse__held:PySem.W.codeIn K xcd_Purse__held "Purse.held" = true)
  (xy_Purse__held:PySem.W.keepIn K (.ref i_Purse__held)=true)
  : ∃fd:FuncData,(∀(s:Shared) (v:Value),BindsTo s fd ⟨[v],[]⟩ [("_law_script",v)])/\∀base:Heap,K.In base->base.Ns mainGlobals mg->FnOk l.prog w K mg base CX0 9 fa fd ["_law_script"] (zq K zd4):=by
 obtain⟨f32,fd32,a32,F32⟩:=p32;have e:=hfa.symm.trans (PySem.W.mg_of X G a32)
 cases e;have B:Blt mg:=⟨PySem.W.mg_none_of X G z_len,PySem.W.mg_none_of X G z_range,PySem.W.mg_none_of X G z_enumerate,PySem.W.mg_none_of X G z_min,PySem.W.mg_none_of X G z_max,PySem.W.mg_none_of X G z_isinstance,PySem.W.mg_none_of X G z_all,PySem.W.mg_none_of X G z_zip,PySem.W.mg_none_of X G z_abs,PySem.W.mg_none_of X G z_divmod,PySem.W.mg_none_of X G z_tupleT,PySem.W.mg_none_of X G z_intT,PySem.W.mg_none_of X G z_strT,PySem.W.mg_none_of X G z_boolT⟩
 have G_PURSE_BOUNDS:=PySem.W.mg_of X G y_PURSE_BOUNDS;have N_PURSE_BOUNDS:∀H,Rep K H (.tuple [(.tuple [(.int 0),(.int 1000)]),(.tuple [(.int 1),(.int 1000)]),(.tuple [(.int 0),(.int 10000)]),(.tuple [(.int 0),(.int 10000)])]) (.ref ga_PURSE_BOUNDS):=λH=>(.tup (zer (xs:=[.ref ga_PURSE_BOUNDS_0,.ref ga_PURSE_BOUNDS_1,.ref ga_PURSE_BOUNDS_2,.ref ga_PURSE_BOUNDS_3]) yl_PURSE_BOUNDS (Nat.le_of_ble_eq_true rfl) (.cons rfl (.cons rfl (.cons rfl (.cons rfl .nil))))) (.cons (.tup (zer (xs:=[.int 0,.int 1000]) yl_PURSE_BOUNDS_0 (Nat.le_of_ble_eq_true rfl) (.cons ⟨_,rfl⟩ (.cons ⟨_,rfl⟩ .nil))) (.cons .int (.cons .int .nil))) (.cons (.tup (zer (xs:=[.int 1,.int 1000]) yl_PURSE_BOUNDS_1 (Nat.le_of_ble_eq_true rfl) (.cons ⟨_,rfl⟩ (.cons ⟨_,rfl⟩ .nil))) (.cons .int (.cons .int .nil))) (.cons (.tup (zer (xs:=[.int 0,.int 10000]) yl_PURSE_BOUNDS_2 (Nat.le_of_ble_eq_true rfl) (.cons ⟨_,rfl⟩ (.cons ⟨_,rfl⟩ .nil))) (.cons .int (.cons .int .nil))) (.cons (.tup (zer (xs:=[.int 0,.int 10000]) yl_PURSE_BOUNDS_3 (Nat.le_of_ble_eq_true rfl) (.cons ⟨_,rfl⟩ (.cons ⟨_,rfl⟩ .nil))) (.cons .int (.cons .int .nil))) .nil)))))
 have G_ASK:=PySem.W.mg_of X G y_ASK;have G_KNOCK:=PySem.W.mg_of X G y_KNOCK;have G_MOST_DEEDS:=PySem.W.mg_of X G y_MOST_DEEDS;have G_MOST_TUPLES:=PySem.W.mg_of X G y_MOST_TUPLES;have G_MOST_MANY:=PySem.W.mg_of X G y_MOST_MANY;have G_MOST_CAP:=PySem.W.mg_of X G y_MOST_CAP;refine⟨fd32,λs v=>zjc F32 (λ_ _ _ _ _ _=>rfl),λbase _ _=>?_⟩;have I_Purse:zcc K mg "Purse" c_Purse ["purse", "coins"]:=⟨PySem.W.mg_of X G xa_Purse,xa_Purse,⟨xpg_Purse,xhd_Purse,xpo_Purse,xsa_Purse⟩,(zht xnf_Purse_purse (zht xnf_Purse_coins zrh))⟩
 have C_is_whole:=cal l.prog w base X G p0 (λ_ _ F=>zfc B F  ) (zfu λ_ _ _ _ _ _ _=>rfl);have C_coins_asked:=cal l.prog w base X G p4 (λ_ _ F=>zbx B F  ) (zg9 λ_ _ _ _ _ _ _ _ _=>rfl);have C_can_pay:=cal l.prog w base X G p5 (λ_ _ F=>zg1 B F  ) (qu λ_ _ _ _ _ _ _ _=>rfl);have C_signs_good:=cal l.prog w base X G p7 (λ_ _ F=>zcj B F G_ASK G_KNOCK ) (zfu λ_ _ _ _ _ _ _=>rfl);have C_going_round:=cal l.prog w base X G p17 (λ_ _ F=>zby B F  ) (zg9 λ_ _ _ _ _ _ _ _ _=>rfl);have C__law_cell_at:=cal l.prog w base X G p23 (λ_ _ F=>zax B F  ) (qu λ_ _ _ _ _ _ _ _=>rfl);have C__law_next:=cal l.prog w base X G p24 (λ_ _ F=>zd2 B F  ) (zfu λ_ _ _ _ _ _ _=>rfl);have C__law_pen_of:=cal l.prog w base X G p25 (λ_ _ F=>zbv B F  ) (zfu λ_ _ _ _ _ _ _=>rfl);have FI_Purse____init__:=zbd (st:=yj) xl_Purse____init__ xw_Purse____init__ xy_Purse____init__;have C_Purse____init__:MkC l.prog w K mg base _ c_Purse ["self", "purse"] _:=⟨_,_,⟨xmk_Purse,xj_Purse____init__,xi_Purse____init__,xkc_Purse⟩,jd B FI_Purse____init__  I_Purse ,(FI_Purse____init__.binds (ps:=["self", "purse"]) λ_ _ _ _ _ _ us hl=>by obtain⟨_,_,rfl⟩:=zsc hl;rfl)⟩
 have FI_Purse__held:=zbd (st:=yt) xl_Purse__held xw_Purse__held xy_Purse__held;have C_Purse__held:zgw l.prog w K mg base _ c_Purse "held" ["self"] _:=⟨_,_,⟨xj_Purse__held,xi_Purse__held,xy_Purse__held⟩,zb2 B FI_Purse__held  I_Purse ,(FI_Purse__held.binds (ps:=["self"]) λ_ _ _ _ _ _ us hl=>by obtain⟨_,rfl⟩:=zmh hl;rfl)⟩
 have C_whole_in:=cal l.prog w base X G p1 (λ_ _ F=>zfd B F  C_is_whole) (zg9 λ_ _ _ _ _ _ _ _ _=>rfl);have C_coins_by:=cal l.prog w base X G p6 (λ_ _ F=>zfk B F G_ASK C_coins_asked C_can_pay) (zg9 λ_ _ _ _ _ _ _ _ _=>rfl);have C_most_paid:=cal l.prog w base X G p16 (λ_ _ F=>zd8 B F  C_coins_asked C_going_round) (qu λ_ _ _ _ _ _ _ _=>rfl);have C__law_draw:=cal l.prog w base X G p26 (λ_ _ F=>zd3 B F  C__law_next) (qu λ_ _ _ _ _ _ _ _=>rfl);have C_wholes_in:=cal l.prog w base X G p2 (λ_ _ F=>zd6 B F  C_whole_in) (qu λ_ _ _ _ _ _ _ _=>rfl);have C_many_deeds_good:=cal l.prog w base X G p13 (λ_ _ F=>jf B F G_MOST_MANY G_ASK G_KNOCK C_whole_in) (zfu λ_ _ _ _ _ _ _=>rfl);have C_best_row:=cal l.prog w base X G p18 (λ_ _ F=>zfn B F G_MOST_DEEDS G_KNOCK G_ASK C_coins_asked C_most_paid) (qu λ_ _ _ _ _ _ _ _=>rfl);have C_most_between:=cal l.prog w base X G p19 (λ_ _ F=>zay B F  C_most_paid) (qu λ_ _ _ _ _ _ _ _=>rfl);have C_parted_by:=cal l.prog w base X G p21 (λ_ _ F=>zec B F G_MOST_CAP G_ASK G_KNOCK C_can_pay C_coins_by) (qu λ_ _ _ _ _ _ _ _=>rfl);have C_later:=cal l.prog w base X G p22 (λ_ _ F=>zmc B F  C_whole_in) (qu λ_ _ _ _ _ _ _ _=>rfl);have C__law_purse:=cal l.prog w base X G p27 (λ_ _ F=>zcg B F  C__law_draw) (zfu λ_ _ _ _ _ _ _=>rfl);have C__law_small:=cal l.prog w base X G p28 (λ_ _ F=>zch B F  C__law_draw) (qu λ_ _ _ _ _ _ _ _=>rfl);have FI_Purse__ask:=zbd (st:=y4) xl_Purse__ask xw_Purse__ask xy_Purse__ask;have C_Purse__ask:zgw l.prog w K mg base _ c_Purse "ask" ["self"] _:=⟨_,_,⟨xj_Purse__ask,xi_Purse__ask,xy_Purse__ask⟩,zci B FI_Purse__ask G_ASK I_Purse C_coins_by,(FI_Purse__ask.binds (ps:=["self"]) λ_ _ _ _ _ _ us hl=>by obtain⟨_,rfl⟩:=zmh hl;rfl)⟩
 have FI_Purse__knock:=zbd (st:=yr) xl_Purse__knock xw_Purse__knock xy_Purse__knock;have C_Purse__knock:zgw l.prog w K mg base _ c_Purse "knock" ["self"] _:=⟨_,_,⟨xj_Purse__knock,xi_Purse__knock,xy_Purse__knock⟩,zaz B FI_Purse__knock G_KNOCK I_Purse C_can_pay C_coins_by,(FI_Purse__knock.binds (ps:=["self"]) λ_ _ _ _ _ _ us hl=>by obtain⟨_,rfl⟩:=zmh hl;rfl)⟩
 have C_purse_good:=cal l.prog w base X G p3 (λ_ _ F=>zcn B F G_PURSE_BOUNDS N_PURSE_BOUNDS C_wholes_in) (zfu λ_ _ _ _ _ _ _=>rfl);have C_gone_by:=cal l.prog w base X G p8 (λ_ _ F=>zg2 B F G_ASK I_Purse C_Purse____init__ C_Purse__ask C_Purse__knock C_Purse__held) (qu λ_ _ _ _ _ _ _ _=>rfl);have C_long_row_good:=cal l.prog w base X G p14 (λ_ _ F=>zal B F G_MOST_TUPLES C_many_deeds_good) (zfu λ_ _ _ _ _ _ _=>rfl);have C_gone_by_row:=cal l.prog w base X G p9 (λ_ _ F=>zb3 B F G_MOST_DEEDS C_signs_good C_gone_by) (qu λ_ _ _ _ _ _ _ _=>rfl);have C_far_behind:=cal l.prog w base X G p15 (λ_ _ F=>zcm B F G_ASK C_coins_asked C_long_row_good) (qu λ_ _ _ _ _ _ _ _=>rfl);have C_parts:=cal l.prog w base X G p20 (λ_ _ F=>zmd B F G_KNOCK C_can_pay C_signs_good C_gone_by) (zg9 λ_ _ _ _ _ _ _ _ _=>rfl);have C_coins_behind:=cal l.prog w base X G p10 (λ_ _ F=>za0 B F  C_gone_by_row) (qu λ_ _ _ _ _ _ _ _=>rfl);have C_unpaid_at:=cal l.prog w base X G p12 (λ_ _ F=>zea B F  C_gone_by_row) (qu λ_ _ _ _ _ _ _ _=>rfl);have C_paid_in:=cal l.prog w base X G p11 (λ_ _ F=>zg4 B F G_KNOCK C_unpaid_at) (qu λ_ _ _ _ _ _ _ _=>rfl);have C__law_row_right:=cal l.prog w base X G p29 (λ_ _ F=>jw B F  C_purse_good C_coins_behind C_paid_in C_unpaid_at C_most_paid C_most_between C_later) (zg9 λ_ _ _ _ _ _ _ _ _=>rfl);have C__law_most_right:=cal l.prog w base X G p30 (λ_ _ F=>jg B F  C_coins_behind C_paid_in C_unpaid_at C_far_behind C_most_paid C_best_row) (qu λ_ _ _ _ _ _ _ _=>rfl);have C__law_two_right:=cal l.prog w base X G p31 (λ_ _ F=>jy B F  C_paid_in C_unpaid_at C_parts C_parted_by) (zg9 λ_ _ _ _ _ _ _ _ _=>rfl);exact zsb B F32  C_parted_by C_later C__law_cell_at C__law_pen_of C__law_draw C__law_purse C__law_small C__law_row_right C__law_most_right C__law_two_right
theorem walk{l:PySem.W.OpenLaw}{q:Program}{loose:List Str}{XP:(Str->Option Value)->Heap->Prop}{YP:World->Heap->Prop}{d:DefRec}{K:Params->PySem.W.Frag}(hn:l.most=some 63)(hdf:d.params.defaults = [])
  (hY:∀(w:World) (h:Heap),YP w h->(K w.params).In h)
  (F:∀(w:World) (mg:Str->Option Value) (fa:Addr) (h:Heap),(K w.params).In h->h.Ns mainGlobals mg->mg d.name=some (.ref fa) ->
   ∃fd:FuncData,(∀(s:Shared) (u:Value),BindsTo s fd ⟨[u],[]⟩ [("_law_script",u)])/\∀base:Heap,(K w.params).In base->base.Ns mainGlobals mg->FnOk l.prog w (K w.params) mg base CX0 9 fa fd ["_law_script"] (zq (K w.params) zd4)) :
  PySem.W.WalkO q loose XP YP l.row.toRowW d [] (λf vs=>PySem.call f vs) :=
 L2.walk_of (n:=63) (k:=9) (x := "_law_script") (CX:=λ_=>CX0) (sp:=λw=>zq (K w.params) zd4) hn (by decide) hdf ⟨rfl,by decide,by decide,rfl⟩ hY F (λ_ _ a ns hl _ hS=>⟨[.scr ns],λr=>r=.val (.bool true),.cons ⟨a,rfl,hS⟩ .nil,⟨ns,rfl,hl,rfl⟩,λv H' r _ rp e=>by subst e;cases rp;rfl⟩) λ_ _ _ _ _ z=>z
end My
namespace PySem.W.Fast
def tw1179819056602232255:=()
def tw16075510449011814315:=()
def tw17747907363448037458:=()
def tw11980716126804884370:=()
def tw392016845955803924:=()
def tw17764845045329808951:=()
def tw8383257054660441071:=()
def tw7660878704705602429:=()
def tw15412714972534122114:=()
def tw9800564456282073153:=()
def tw2834541043728177734:=()
def tw17762551926956597700:=()
def tw8755786751318397245:=()
def tw6535613595177695512:=()
def tw13992517069184796587:=()
def tw17787416869417844796:=()
def tw4124815331699047552:=()
def tw7117654568495768459:=()
def tw10302247670409022998:=()
def tw16995895429135625748:=()
def tw10467854580845361313:=()
def tw16175733081976565615:=()
def tw15078305281177927550:=()
def tw8655865556117528508:=()
def tw11363238035600720423:=()
def tw399715027562293751:=()
def tw2211971948947374749:=()
def tw11587983136967828603:=()
def tw12135297147485026182:=()
def tw13535657545524561234:=()
def tw1346087030669981567:=()
def tw12522303682691253765:=()
def tw12540075141306832435:=()
def tw11446008955386186591:=()
def tw4748817763193451776:=()
def tw3413285527699049091:=()
def tw18026316559317271816:=()
def tw14397507538572091023:=()
def tw8686154784904243302:=()
def tw2973372686094734141:=()
def tw4802922466596388862:=()
def tw12415927599076069334:=()
def tw7002888041683252405:=()
def tw17303490279078529726:=()
def tw11566975159717703507:=()
def tw954830428436297724:=()
def tw13186556907427846055:=()
def tw8603754511528853110:=()
def tw4654422559017660899:=()
def tw15189830530166145254:=()
def tw15263241718242871268:=()
def tw13830663181465229946:=()
def tw13208019501990632628:=()
def tw16772512137461805542:=()
def tw18124877151659879931:=()
def tw16511729797373033463:=()
def tw4303209089906341058:=()
def tw612768292944744209:=()
def tw16047518091919975398:=()
def tw2754639540630305519:=()
def tw878638349023444925:=()
def tw12307708581286169667:=()
def tw3825675557608818552:=()
def tw14574376103330750168:=()
def tw9822831275430675594:=()
def tw13813727886053259340:=()
def tw17593108154846707390:=()
def tw17635643843528128561:=()
def tw13600509229070718119:=()
def tw11829406755921971517:=()
def tw1719436590637661775:=()
def tw264133792321402232:=()
def tw13231787979372431249:=()
def tw2070984339269660972:=()
def tw18023755768450756088:=()
def tw11035144567099105699:=()
def tw14502808096776470059:=()
def tw1488137989762513476:=()
def tw11094109766820801976:=()
def tw1210522103761676107:=()
def tw5268651494693515134:=()
def tw17974557606280654967:=()
def tw9947780568422847695:=()
def tw1650191652002555507:=()
def tw1478780124700429514:=()
def tw11529899064796031691:=()
def tw4534795287588025713:=()
def tw13267571154914579695:=()
def tw11788513046366093678:=()
def tw9073906131612749719:=()
def tw1957558907840550553:=()
def tw14198496772394086392:=()
def tw7800420820791194194:=()
def tw2146155749272144120:=()
def tw17096821397990728832:=()
def tw9241374588283420742:=()
def tw2790640383867982356:=()
def tw17206211348576971905:=()
def tw9748407785499839648:=()
def tw2697159203676686624:=()
def tw13693418972023263544:=()
def tw7569227429427178758:=()
def tw18436953696613090078:=()
def tw9423897389913176326:=()
def tw7488429739426833828:=()
def tw17016302844926714757:=()
def tw11792603559810777308:=()
def tw3376301923497240445:=()
end PySem.W.Fast
open PySem PySem.W PyProof.Rows
local macro_rules|`(tactic| walk_at "fn")=>`(tactic|(refine' My.fn_at ?a ?l ?c ?k;(case a=>k_is);(case l=>k_is);(case c=>k_is);(case k=>k_is)))
set_option maxRecDepth 100000 in
set_option maxHeartbeats 0 in
theorem PySem.Challenge.cw_knockpurse_k38_whole_purses_holds : PySem.Challenge.rw_knockpurse_k38_whole_purses.Holds := by
 w_on;o_law;k_head;(case hw=>w_witness2)
 k_fill
 refine My.walk (l:=PySem.Challenge.rw_knockpurse_k38_whole_purses) rfl rfl (λw h Y=>PySem.W.kIn_of Y) ?F
 case F=>
  intro w mg fa h KX G hmg
  refine' My.all_mk KX G hmg ?p0 ?p1 ?p2 ?p3 ?p4 ?p5 ?p6 ?p7 ?p8 ?p9 ?p10 ?p11 ?p12 ?p13 ?p14 ?p15 ?p16 ?p17 ?p18 ?p19 ?p20 ?p21 ?p22 ?p23 ?p24 ?p25 ?p26 ?p27 ?p28 ?p29 ?p30 ?p31 ?p32 ?z_len ?z_range ?z_enumerate ?z_min ?z_max ?z_isinstance ?z_all ?z_zip ?z_abs ?z_divmod ?z_tupleT ?z_intT ?z_strT ?z_boolT ?yl_PURSE_BOUNDS_0 ?yl_PURSE_BOUNDS_1 ?yl_PURSE_BOUNDS_2 ?yl_PURSE_BOUNDS_3 ?yl_PURSE_BOUNDS ?y_PURSE_BOUNDS ?y_ASK ?y_KNOCK ?y_MOST_DEEDS ?y_MOST_TUPLES ?y_MOST_MANY ?y_MOST_CAP ?xa_Purse ?xpg_Purse ?xhd_Purse ?xpo_Purse ?xsa_Purse ?xmk_Purse ?xkc_Purse ?xnf_Purse_purse ?xnf_Purse_coins ?xj_Purse____init__ ?xi_Purse____init__ ?xl_Purse____init__ ?xw_Purse____init__ ?xy_Purse____init__ ?xj_Purse__ask ?xi_Purse__ask ?xl_Purse__ask ?xw_Purse__ask ?xy_Purse__ask ?xj_Purse__knock ?xi_Purse__knock ?xl_Purse__knock ?xw_Purse__knock ?xy_Purse__knock ?xj_Purse__held ?xi_Purse__held ?xl_Purse__held ?xw_Purse__held ?xy_Purse__held
  (case p0=>walk_at "fn")
  (case p1=>walk_at "fn")
  (case p2=>walk_at "fn")
  (case p3=>walk_at "fn")
  (case p4=>walk_at "fn")
  (case p5=>walk_at "fn")
  (case p6=>walk_at "fn")
  (case p7=>walk_at "fn")
  (case p8=>walk_at "fn")
  (case p9=>walk_at "fn")
  (case p10=>walk_at "fn")
  (case p11=>walk_at "fn")
  (case p12=>walk_at "fn")
  (case p13=>walk_at "fn")
  (case p14=>walk_at "fn")
  (case p15=>walk_at "fn")
  (case p16=>walk_at "fn")
  (case p17=>walk_at "fn")
  (case p18=>walk_at "fn")
  (case p19=>walk_at "fn")
  (case p20=>walk_at "fn")
  (case p21=>walk_at "fn")
  (case p22=>walk_at "fn")
  (case p23=>walk_at "fn")
  (case p24=>walk_at "fn")
  (case p25=>walk_at "fn")
  (case p26=>walk_at "fn")
  (case p27=>walk_at "fn")
  (case p28=>walk_at "fn")
  (case p29=>walk_at "fn")
  (case p30=>walk_at "fn")
  (case p31=>walk_at "fn")
  (case p32=>walk_at "fn")
  (case z_len=>k_is)
  (case z_range=>k_is)
  (case z_enumerate=>k_is)
  (case z_min=>k_is)
  (case z_max=>k_is)
  (case z_isinstance=>k_is)
  (case z_all=>k_is)
  (case z_zip=>k_is)
  (case z_abs=>k_is)
  (case z_divmod=>k_is)
  (case z_tupleT=>k_is)
  (case z_intT=>k_is)
  (case z_strT=>k_is)
  (case z_boolT=>k_is)
  (case y_PURSE_BOUNDS=>k_is)
  (case yl_PURSE_BOUNDS=>k_is)
  (case yl_PURSE_BOUNDS_3=>k_is)
  (case yl_PURSE_BOUNDS_2=>k_is)
  (case yl_PURSE_BOUNDS_1=>k_is)
  (case yl_PURSE_BOUNDS_0=>k_is)
  (case y_ASK=>k_is)
  (case y_KNOCK=>k_is)
  (case y_MOST_DEEDS=>k_is)
  (case y_MOST_TUPLES=>k_is)
  (case y_MOST_MANY=>k_is)
  (case y_MOST_CAP=>k_is)
  (case xa_Purse=>k_is)
  (case xpg_Purse=>k_is)
  (case xhd_Purse=>k_is)
  (case xpo_Purse=>k_is)
  (case xsa_Purse=>k_is)
  (case xmk_Purse=>k_is)
  (case xkc_Purse=>k_is)
  (case xnf_Purse_purse=>k_is)
  (case xnf_Purse_coins=>k_is)
  (case xj_Purse____init__=>k_is)
  (case xi_Purse____init__=>k_is)
  (case xl_Purse____init__=>k_is)
  (case xw_Purse____init__=>k_is)
  (case xy_Purse____init__=>k_is)
  (case xj_Purse__ask=>k_is)
  (case xi_Purse__ask=>k_is)
  (case xl_Purse__ask=>k_is)
  (case xw_Purse__ask=>k_is)
  (case xy_Purse__ask=>k_is)
  (case xj_Purse__knock=>k_is)
  (case xi_Purse__knock=>k_is)
  (case xl_Purse__knock=>k_is)
  (case xw_Purse__knock=>k_is)
  (case xy_Purse__knock=>k_is)
  (case xj_Purse__held=>k_is)
  (case xi_Purse__held=>k_is)
  (case xl_Purse__held=>k_is)
  (case xw_Purse__held=>k_is)
  (case xy_Purse__held=>k_is)
