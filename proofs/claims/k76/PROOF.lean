import PyProof.Rows.All
import PyProof.StrReplace2
import PyProof.Rows.TupDisplay
import PyProof.SliceList
import PyProof.DictWalks
import PyProof.ListStr
import KE.KEqDict
import Wide.All
import OpenK.AllK
import Wide.FinOn
import Lean
import PyProof.EqAt
import PyProof.EqKinds
import PyProof.TupleCall
import PyProof.ListMulRoad
import PyProof.Lay0
import PyProof.Rows.EqDataRows
import PyProof.ReprRoads
import PyProof.Rows.MinMaxN
import PyProof.ReprLen
import PyProof.FitsInt
import PyProof.MinMaxWalk
import KE.KRevSl
import KE.KRevIter
import PyProof.ListRange
import PyProof.Sched
import PyProof.Rows.SortShellK
import PyProof.Rows.SortRunK
import PyProof.Rows.SortRuns
import PyProof.TupleOfSeq
import PyProof.RulesAs
import OpenK.KDescr
import OpenK.KOwn
import KE.KIsNot
import KE.KIsAll
import PyProof.Rows.SetFrom
import PyProof.WalksMore
import PyProof.CollectWalk
import KE.KLam
import KE.KMinKey
import KE.KSortKey
import KE.KDictList
import KE.KDictOf
import PyProof.Rows.Range3
import PyProof.FactsAll.range
import PyProof.Rows.StrLen
import PyProof.Rows.StrCase
import PyProof.StrBlock2
import PyProof.Rows.StrRules
import PyProof.Rows.RegReprOcc
import PyProof.AttrMissSeq
import PyProof.DictWalks
import KE.KEqDict
import PyProof.ExcInit
import PyProof.ExcClass3
import PyProof.InstStoreFacts
import PyProof.SetRoads
import PyProof.TupleKey
import PyProof.P3Eq
import PySem.Challenge.RW_knockpurse_k76_calm_behind_healing
set_option Elab.async false
set_option linter.all false
set_option maxRecDepth 100000
namespace L2
open PySem PySem.Spec PyProof.Rows
abbrev Key:=Sum Int Str
def zdc:Key->Value->Bool
 |.inl k,v=>Value.isInt k v
 |.inr x,v=>Value.isStrOf x v
def zvp(w:World):Key->Int
 |.inl k=>hashInt k
 |.inr x=>hashStr w x
theorem yv:∀{k:Key}{v:Value},zdc k v=true->(∃i t,k=Sum.inl i/\v=Value.int i t)\/(∃x t,k=Sum.inr x/\v=Value.str x t)
 |.inl i,v,h=>by
  obtain⟨t,e⟩:=Value.isInt_shape (k:=i) (v:=v) h;exact .inl ⟨i,t,rfl,e⟩
 |.inr x,v,h=>by
  obtain⟨t,e⟩:=Value.isStrOf_shape (x:=x) (v:=v) h;exact .inr ⟨x,t,rfl,e⟩
theorem keyIs_int(i:Int)(t:Tok):zdc (.inl i) (.int i t)=true:=by simp[zdc,Value.isInt]
theorem keyIs_str(x:Str)(t:Tok):zdc (.inr x) (.str x t)=true:=by simp[zdc,Value.isStrOf]
theorem zra(a b:Int):decide ((Sum.inl a:Key)=Sum.inl b)=(a == b):=by
 by_cases e:a=b
 ·subst e;simp
 ·have h:¬ (Sum.inl a:Key)=Sum.inl b:=λq=>e (Sum.inl.inj q);rw[decide_eq_false h];exact(beq_eq_false_iff_ne.mpr e).symm
theorem zrb(a b:Str):decide ((Sum.inr a:Key)=Sum.inr b)=decide (a=b):=by
 by_cases e:a=b
 ·subst e;simp
 ·have h:¬ (Sum.inr a:Key)=Sum.inr b:=λq=>e (Sum.inr.inj q);rw[decide_eq_false h,decide_eq_false e]
theorem zrc(a:Int)(b:Str):decide ((Sum.inl a:Key)=Sum.inr b)=false:=decide_eq_false (λq=>nomatch q)
theorem zrd(a:Str)(b:Int):decide ((Sum.inr a:Key)=Sum.inl b)=false:=decide_eq_false (λq=>nomatch q)
def mixKind(prog:Program)(w:World):PySem.KeyKind prog w Key where
 is:=zdc
 hash:=zvp w
 inj:=λv a b ha hb=>by
  rcases yv ha with⟨i,t,rfl,rfl⟩ |⟨x,t,rfl,rfl⟩
  ·rcases yv hb with⟨j,u,rfl,e⟩ |⟨y,u,rfl,e⟩
   ·injection e with e1 _;rw[e1]
   ·exact nomatch e
  ·rcases yv hb with⟨j,u,rfl,e⟩ |⟨y,u,rfl,e⟩
   ·exact nomatch e
   ·injection e with e1 _;rw[e1]
 byValue:=λk v h=>by
  rcases yv h with⟨i,t,rfl,rfl⟩ |⟨x,t,rfl,rfl⟩ <;> rfl
 pyHash:=λhv h=>by
  rcases yv hv with⟨i,t,rfl,rfl⟩ |⟨x,t,rfl,rfl⟩
  ·exact wpAny_pyHash_int h
  ·exact wpAny_pyHash_str h
 eqBool:=λhu hv h=>by
  rcases yv hu with⟨i,t,rfl,rfl⟩ |⟨x,t,rfl,rfl⟩
  ·rcases yv hv with⟨j,u,rfl,rfl⟩ |⟨y,u,rfl,rfl⟩
   ·rw[zra]at h;exact wpAny_eqBool_int h
   ·rw[zrc]at h;exact SeqAt.EqAt.int_str i t y u _ _ _ _ h
  ·rcases yv hv with⟨j,u,rfl,rfl⟩ |⟨y,u,rfl,rfl⟩
   ·rw[zrd]at h;exact SeqAt.EqAt.str_int x t j u _ _ _ _ h
   ·rw[zrb]at h;exact wpAny_eqBool_str h
 «strs»:=λk x t v h=>by
  rcases yv h with⟨i,u,rfl,e⟩ |⟨y,u,rfl,e⟩
  ·exact nomatch e
  ·injection e with e1 _
   subst e1
   cases v <;> rfl
inductive V where
 |non|bl (b:Bool)|int (i:Int)|str (x:Str)|byt (b:Array UInt8)|flt (b:UInt64)|ref (a:Addr)|ty (n:String)
 deriving DecidableEq
def RelV:V->Value->Prop
 |.non,u=>u=Value.none
 |.bl b,u=>u=Value.bool b
 |.int i,u=>∃t,u=Value.int i t
 |.str x,u=>∃t,u=Value.str x t
 |.byt b,u=>∃t,u=Value.bytes b t
 |.flt b,u=>∃t,u=Value.float b t
 |.ref a,u=>u=Value.ref a
 |.ty n,u=>u=Value.type n
abbrev Vals:List V->List Value->Prop:=Paired RelV
theorem Vals.length{xs:List V}{us:List Value}(r:Vals xs us):xs.length=us.length:=Paired.length r
theorem Vals.get:∀{xs:List V}{us:List Value}{i:Nat}{x:V},Vals xs us->xs[i]?=some x->∃u,us[i]?=some u/\RelV x u
 |_,_,_,_,.nil,e=>by simp at e
 |_,_,0,_,.cons r _,e=>by simp at e;subst e;exact⟨_,rfl,r⟩
 |_,_,i+1,x,.cons _ t,e=>by
  obtain⟨u,h1,h2⟩:=Vals.get (i:=i) (x:=x) t (by simpa using e);exact⟨u,by simpa using h1,h2⟩
theorem Vals.set{x:V}{u:Value}(r:RelV x u):∀{xs:List V}{us:List Value} (i:Nat),Vals xs us->Vals (xs.set i x) (us.set i u)
 |_,_,_,.nil=>.nil
 |_,_,0,.cons _ t=>.cons r t
 |_,_,i+1,.cons q t=>.cons q (Vals.set r i t)
theorem Vals.append:∀{xs ys:List V}{us ws:List Value},Vals xs us->Vals ys ws->Vals (xs++ys) (us++ws)
 |_,_,_,_,.nil,s=>s
 |_,_,_,_,.cons r t,s=>.cons r (Vals.append t s)
theorem Vals.take:∀{xs:List V}{us:List Value} (n:Nat),Vals xs us->Vals (xs.take n) (us.take n)
 |_,_,0,_=>.nil
 |_,_,_+1,.nil=>.nil
 |_,_,n+1,.cons r t=>.cons r (Vals.take n t)
theorem Vals.drop:∀{xs:List V}{us:List Value} (n:Nat),Vals xs us->Vals (xs.drop n) (us.drop n)
 |_,_,0,r=>r
 |_,_,_+1,.nil=>.nil
 |_,_,n+1,.cons _ t=>Vals.drop n t
def ztw:Option V->Option Value->Prop
 |some v,some u=>RelV v u
 |none,none=>True
 |_,_=>False
def KV{κ:Type}:List (κ×V)->List (κ×Value)->Prop:=Paired λ(p:κ×V) (q:κ×Value)=>p.1=q.1/\RelV p.2 q.2
def kV:Key->V
 |.inl i=>.int i
 |.inr x=>.str x
inductive HO where
  |lst (xs:List V)
  |tup (xs:List V)
  |dK (kvs:List (Key×V))|dT (kvs:List (List Key×V))
  |set (S:Int->Bool) (n:Nat)
  |ins (C dx:Addr) (fs:List (Str×V))
  |own (x:Addr)
  |xd (fs:List (Str×V))
  |met (f x:Addr)
  |rng (lo hi:Int)
  |frz (o:Obj) (u:HO)
  |tbl (ps:Array Value)
  |ext (φ:Heap->Prop)
  |mx (φ:Program->World->Heap->Prop)
abbrev Hp:=Addr->Option HO
def upd(H:Hp)(a:Addr)(o:HO):Hp:=λb=>if b=a then some o else H b
theorem zq{H:Hp}{a:Addr}{o:HO}:upd H a o a=some o:=by unfold upd;rw[if_pos rfl]
theorem zv{H:Hp}{a b:Addr}{o:HO}(h:b≠a):upd H a o b=H b:=by unfold upd;rw[if_neg h]
theorem yy{H:Hp}{a b:Addr}{o:HO}(h:H a=some o)(h':H b=none):a≠b:=by
 intro e;subst e;rw[h]at h';cases h'
def TupD(h:Heap)(a:Addr)(items:Array Value):Prop:=∃o,h.get? a=some o/\o.cls=.type "tuple" /\(∃n,o.data=.seq items n)/\o.dict=none
theorem TupD.isTup{h:Heap}{a:Addr}{items:Array Value}(x:TupD h a items):IsTup h a items:=let ⟨o,e,c,d,_⟩:=x;⟨o,e,c,d⟩
theorem TupD.lt{h:Heap}{a:Addr}{items:Array Value}(x:TupD h a items):a<h.objs.size:=x.isTup.lt
theorem TupD.new(h:Heap)(items:Array Value):TupD (h.push { cls:=.type "tuple",data:=.seq items }) h.objs.size items:=⟨_,Heap.get?_push_size _ rfl,rfl,⟨_,rfl⟩,rfl⟩
def ztx(oc:Obj)(q:Str):Prop:=∃vs t,oc.data=.fields vs/\vs[1]?=some (.str q t)
def zty(H:Hp)(h:Heap)(a:Addr)(lab:Array Value):Prop:=∃(ps:Array Value) (q:Str) (t:Tok),lab = #[.str q t]/\h.get? a=some { cls:=.none,data:=.fields ps }/\TriplesOk ps.toList /\
 ∀pos cv,codeAmong pos ps.toList=some cv->∃c' oc u,cv=.ref c'/\H c'=some (.frz oc u)/\ztx oc q
section
variable (P:Program)(w:World)
def ObjOk(H:Hp)(h:Heap)(a:Addr):HO->Prop
 |.lst xs=>xs.length<=sizeLine/\∃(its:List Value) (n:Nat),Vals xs its/\h.get? a=some { cls:=.type "list",data:=.seq its.toArray n }
 |.tup xs=>xs.length<=sizeLine/\∃its:List Value,Vals xs its/\TupD h a its.toArray
 |.dK kvs=>kvs.length<=sizeLine/\(a == sysModules)=false/\∃vs,KV kvs vs/\h.DictOf (mixKind P w) a vs
 |.dT kvs=>kvs.length<=sizeLine/\(a == sysModules)=false/\∃xs:List (List Key×Addr×Value),
   Paired (λ(p:List Key×V) (q:List Key×Addr×Value)=>p.1=q.1/\H q.2.1=some (.tup (p.1.map kV))/\RelV p.2 q.2.2) kvs xs /\
   ∃o es ep,h.get? a=some o/\o.ExactDict/\o.data=.dict es ep/\es.toList=xs.map (entryOfKey (tupleKind (mixKind P w)))/\(xs.map (·.1)).Nodup
 |.set S n=>h.SetOf (intKind P w) a S n
 |.ins C dx fs=>H dx=some (.own a)/\fs.length<=1000/\dx≠a/\h.get? a=some (PySem.W.instObj C dx) /\
   ∃mA,h.Ns1 dx mA/\(∀f,ztw (fs.lookup f) (mA f))/\PySem.Within mA (fs.map (·.1))
 |.own _=>∃o,h.get? a=some o
 |.xd fs=>∃mA,h.Ns1 a mA/\∀f,ztw (fs.lookup f) (mA f)
 |.rng lo hi=>∃t u v,h.get? a=some { cls:=.type "range",data:=.fields #[.int lo t,.int hi u,.int 1 v] }
 |.frz o u=>h.get? a=some o/\ObjOk H h a u
 |.tbl ps=>zty H h a ps
 |.met f x=>h.get? a=some (PySem.W.methodObj (.ref f) (.ref x))
 |.ext φ=>φ h/\(∃o,h.get? a=some o)/\∀h1 h2:Heap,φ h1->(∀o,h1.get? a=some o->h2.get? a=some o)->φ h2
 |.mx φ=>φ P w h/\(∃o,h.get? a=some o)/\∀h1 h2:Heap,φ P w h1->(∀o,h1.get? a=some o->h2.get? a=some o)->φ P w h2
def HOk(H:Hp)(h:Heap):Prop:=∀a o,H a=some o->ObjOk P w H h a o
end
section
variable {P:Program}{w:World}{H H':Hp}{h h':Heap}{a:Addr}{o:HO}
theorem ObjOk.lt(x:ObjOk P w H h a o):a<h.objs.size:=by
 cases o with
 |lst xs=>obtain⟨_,_,_,_,e⟩:=x;exact Heap.lt_size e
 |tup xs=>obtain⟨_,_,_,p⟩:=x;exact p.lt
 |dK kvs=>obtain⟨_,_,_,_,o,_,_,e,_⟩:=x;exact Heap.lt_size e
 |dT kvs=>obtain⟨_,_,_,_,o,_,_,e,_⟩:=x;exact Heap.lt_size e
 |set S n=>obtain⟨o,_,_,_,e,_⟩:=x;exact Heap.lt_size e
 |ins C dx fs=>obtain⟨_,_,_,e,_⟩:=x;exact Heap.lt_size e
 |own y=>obtain⟨_,e⟩:=x;exact Heap.lt_size e
 |xd fs=>obtain⟨_,⟨_,_,_,e,_⟩,_⟩:=x;exact Heap.lt_size e
 |rng lo hi=>obtain⟨_,_,_,e⟩:=x;exact Heap.lt_size e
 |frz ob u=>obtain⟨e,_⟩:=x;exact Heap.lt_size e
 |tbl ps=>obtain⟨_,_,_,_,e,_⟩:=x;exact Heap.lt_size e
 |met f y=>exact Heap.lt_size (show h.get? a=some _ from x)
 |ext φ=>obtain⟨_,⟨_,e⟩,_⟩:=x;exact Heap.lt_size e
 |mx φ=>obtain⟨_,⟨_,e⟩,_⟩:=x;exact Heap.lt_size e
theorem Paired.mapP{α β:Type}{F G:α->β->Prop}:∀{l₁:List α}{l₂:List β},Paired F l₁ l₂->(∀a b,F a b->G a b)->Paired G l₁ l₂
 |_,_,.nil,_=>.nil
 |_,_,.cons r t,f=>.cons (f _ _ r) (Paired.mapP t f)
theorem ObjOk.stay(x:ObjOk P w H h a o)(k:∀b u,(b=a\/H b=some (.own a))->h.get? b=some u->h'.get? b=some u)
  (ho:∀b,H b=some (.own a)->H' b=some (.own a)) (ht:∀b xs,H b=some (.tup xs)->H' b=some (.tup xs)) (hf:∀b o u,H b=some (.frz o u)->H' b=some (.frz o u):=by exact λ_ _ _ q=>q):ObjOk P w H' h' a o:=by
 induction o with
 |lst xs=>obtain⟨z,its,n,r,e⟩:=x;exact⟨z,its,n,r,k _ _ (.inl rfl) e⟩
 |tup xs=>obtain⟨z,its,r,ob,e,c⟩:=x;exact⟨z,its,r,ob,k _ _ (.inl rfl) e,c⟩
 |dK kvs=>obtain⟨z,y,vs,r,ob,es,ep,e,c⟩:=x;exact⟨z,y,vs,r,ob,es,ep,k _ _ (.inl rfl) e,c⟩
 |dT kvs=>
  obtain⟨z,y,xs,r,ob,es,ep,e,c⟩:=x;exact⟨z,y,xs,Paired.mapP r λp q z=>⟨z.1,ht _ _ z.2.1,z.2.2⟩,ob,es,ep,k _ _ (.inl rfl) e,c⟩
 |set S n=>obtain⟨ob,es,ep,t,e,c⟩:=x;exact⟨ob,es,ep,t,k _ _ (.inl rfl) e,c⟩
 |ins C dx fs=>
  obtain⟨d,z,ne,e,mA,⟨od,es,ep,e2,c⟩,r⟩:=x;exact⟨ho _ d,z,ne,k _ _ (.inl rfl) e,mA,⟨od,es,ep,k _ _ (.inr d) e2,c⟩,r⟩
 |own y=>obtain⟨ob,e⟩:=x;exact⟨ob,k _ _ (.inl rfl) e⟩
 |xd fs=>obtain⟨mA,⟨od,es,ep,e,c⟩,r⟩:=x;exact⟨mA,⟨od,es,ep,k _ _ (.inl rfl) e,c⟩,r⟩
 |rng lo hi=>obtain⟨t,u,v,e⟩:=x;exact⟨t,u,v,k _ _ (.inl rfl) e⟩
 |frz ob u ih=>obtain⟨e,q⟩:=x;exact⟨k _ _ (.inl rfl) e,ih q⟩
 |tbl ps=>
  obtain⟨rs,q,t,z,e,tr,r⟩:=x;exact⟨rs,q,t,z,k a _ (.inl rfl) e,tr,λpos cv y=>let ⟨c',oc,u,r1,r2,r3⟩:=r pos cv y;⟨c',oc,u,r1,hf _ _ _ r2,r3⟩⟩
 |met f y=>
  have e:h.get? a=some (PySem.W.methodObj (.ref f) (.ref y)):=x;show h'.get? a=some (PySem.W.methodObj (.ref f) (.ref y));exact k a _ (.inl rfl) e
 |ext φ=>obtain⟨p,⟨o,e⟩,st⟩:=x;exact⟨st _ _ p λo q=>k _ _ (.inl rfl) q,⟨o,k _ _ (.inl rfl) e⟩,st⟩
 |mx φ=>obtain⟨p,⟨o,e⟩,st⟩:=x;exact⟨st _ _ p λo q=>k _ _ (.inl rfl) q,⟨o,k _ _ (.inl rfl) e⟩,st⟩
theorem HOk.lt(x:HOk P w H h)(e:H a=some o):a<h.objs.size:=(x a o e).lt
theorem HOk.fresh(x:HOk P w H h)(e:h.objs.size<=a):H a=none:=by
 cases q:H a with
 |none=>rfl
 |some u=>exact absurd (Nat.lt_of_lt_of_le (x.lt q) e) (Nat.lt_irrefl _)
theorem HOk.kept(x:HOk P w H h)(k:∀b u,h.get? b=some u->h'.get? b=some u):HOk P w H h':=λa o e=>
 (x a o e).stay (λb u _ q=>k b u q) (λ_ q=>q) λ_ _ q=>q
theorem HOk.laid(x:HOk P w H h)(k:∀b u,h.get? b=some u->h'.get? b=some u)(hp:h.objs.size<=a)(new:ObjOk P w (upd H a o) h' a o):HOk P w (upd H a o) h':=λb u e=>by
 have hn:=x.fresh hp
 by_cases hb:b=a
 ·subst hb;rw[zq]at e;cases e;exact new
 ·rw[zv hb]at e;exact(x b u e).stay (λc v _ q=>k c v q) (λc q=>by rw[zv (yy q hn)];exact q) (λc xs q=>by rw[zv (yy q hn)];exact q) λc _ _ q=>by rw[zv (yy q hn)];exact q
end
def Rd(H:Hp)(a:Addr)(u:HO):Prop:=H a=some u\/∃o,H a=some (.frz o u)
theorem Rd.ok{P:Program}{w:World}{H:Hp}{h:Heap}{a:Addr}{u:HO}(r:Rd H a u)(x:HOk P w H h):ObjOk P w H h a u:=by
 rcases r with r |⟨o,r⟩
 ·exact x a u r
 ·obtain⟨_,q⟩:=x a _ r;exact q
def Mut:Option HO->Prop
 |some (.lst _)=>True
 |some (.dK _)=>True
 |some (.dT _)=>True
 |some (.set _ _)=>True
 |some (.ins _ _ _)=>True
 |some (.ext _)=>True
 |some (.mx _)=>True
 |_=>False
section
variable {P:Program}{w:World}{H:Hp}{h h':Heap}{x e:Addr}{o':HO}
theorem HOk.write(ok:HOk P w H h)(mu:Mut (H x))(he:e=x\/H e=some (.own x))(k:∀b u,b≠e->h.get? b=some u->h'.get? b=some u)(heo:∃u,h'.get? e=some u)
  (new:ObjOk P w (upd H x o') h' x o'):HOk P w (upd H x o') h':=λb u q=>by
 have nown:∀c y,H c=some (.own y)->c≠x:=λc y r z=>by subst z;rw[r]at mu;exact mu
 have ntup:∀c xs,H c=some (.tup xs)->c≠x:=λc xs r z=>by subst z;rw[r]at mu;exact mu
 have nfrz:∀c o u,H c=some (.frz o u)->c≠x:=λc o u r z=>by subst z;rw[r]at mu;exact mu
 by_cases hb:b=x
 ·subst hb;rw[zq]at q;cases q;exact new
 ·rw[zv hb]at q
  by_cases hbe:b=e
  ·have q':H b=some (.own x):=by
    rcases he with z|z
    ·exact absurd (hbe.trans z) hb
    ·rw[hbe];exact z
   rw[q]at q';cases q';obtain⟨v,hv⟩:=heo;exact⟨v,by rw[hbe];exact hv⟩
  ·refine(ok b u q).stay (λc v hc r=>k c v ?_ r) (λc r=>by rw[zv (nown c b r)];exact r) (λc xs r=>by rw[zv (ntup c xs r)];exact r) (λc o u r=>by rw[zv (nfrz c o u r)];exact r);rcases hc with rfl|hc
   ·exact hbe
   ·rintro rfl;rcases he with z|z
    ·exact nown c b hc z
    ·rw[hc]at z;cases z;exact hb rfl
end
structure Un(fs ex:List Addr)(H H':Hp)(h h':Heap):Prop where
 keep:∀b o,h.get? b=some o->H b=none->b∉fs->b∉ex->h'.get? b=some o
 slot:∀b o,h.get? b=some o->H b=none->b∈fs->b∉ex->∃sl,h'.get? b=some { o with slots:=sl }
 free:∀b o,h.get? b=some o->H b=none->b∉ex->H' b=none
 there:∀b o,h.get? b=some o->b∉ex->∃o',h'.get? b=some o'
 tups:∀b xs,H b=some (.tup xs)->H' b=some (.tup xs)
 frzs:∀b o u,H b=some (.frz o u)->H' b=some (.frz o u)
 tbls:∀b ps,H b=some (.tbl ps)->∃more,H' b=some (.tbl (ps++more))
section
variable {fs fs' ex ex':List Addr}{H H1 H2:Hp}{h h1 h2 h':Heap}{a x e:Addr}{o:HO}
theorem Un.any(u:Un fs ex H H1 h h1){b:Addr}{ob:Obj}(q:h.get? b=some ob)(n:H b=none)(hx:b∉ex):∃sl,h1.get? b=some { ob with slots:=sl }:=by
 by_cases hb:b∈fs
 ·exact u.slot b ob q n hb hx
 ·exact⟨ob.slots,u.keep b ob q n hb hx⟩
theorem Un.kept(k:∀b u,h.get? b=some u->h'.get? b=some u):Un fs ex H H h h' :=
 ⟨λb ob q _ _ _=>k b ob q,λb ob q _ _ _=>⟨ob.slots,k b ob q⟩,λ_ _ _ n _=>n,λb ob q _=>⟨ob,k b ob q⟩,λ_ _ q=>q,λ_ _ _ q=>q,λ_ ps q=>⟨#[],by rw[q];simp⟩⟩
theorem Un.refl:Un fs ex H H h h:=Un.kept λ_ _ q=>q
theorem Un.laid(k:∀b u,h.get? b=some u->h'.get? b=some u)(hp:h.objs.size<=a)(hn:H a=none):Un fs ex H (upd H a o) h h' where
 keep:=λb u q _ _ _=>k b u q
 slot:=λb u q _ _ _=>⟨u.slots,k b u q⟩
 free:=λb u q n _=>by rw[zv (Nat.ne_of_lt (Nat.lt_of_lt_of_le (Heap.lt_size q) hp))];exact n
 there:=λb u q _=>⟨u,k b u q⟩
 tups:=λb xs q=>by rw[zv (yy q hn)];exact q
 frzs:=λb u xs q=>by rw[zv (yy q hn)];exact q
 tbls:=λb ps q=>⟨#[],by rw[zv (yy q hn),q];simp⟩
theorem Un.write(mu:Mut (H x))(he:e=x\/H e=some (.own x))(k:∀b u,b≠e->h.get? b=some u->h'.get? b=some u)(heo:∃u,h'.get? e=some u):Un fs ex H (upd H x o) h h':=by
 have hx:∀b,H b=none->b≠x:=λb n z=>by subst z;rw[n]at mu;exact mu
 have hb:∀b,H b=none->b≠e:=λb n z=>by
  subst z;rcases he with r|r
  ·exact hx b n r
  ·rw[n]at r;cases r
 have hm:∀b u,H b=some u->¬ Mut (some u)->b≠x:=λb u q nm z=>by subst z;rw[q]at mu;exact nm mu
 refine⟨λb u q n _ _=>k b u (hb b n) q,λb u q n _ _=>⟨u.slots,k b u (hb b n) q⟩,λb u q n _=>by rw[zv (hx b n)];exact n,λb u q _=>?_,
  λb xs q=>by rw[zv (hm b _ q λz=>z)];exact q,λb u xs q=>by rw[zv (hm b _ q λz=>z)];exact q,λb ps q=>⟨#[],by rw[zv (hm b _ q λz=>z),q];simp⟩⟩
 by_cases hbe:b=e
 ·subst hbe;exact heo
 ·exact⟨u,k b u hbe q⟩
end
def trk(h:Heap)(H:Hp):List Addr:=(List.range h.objs.size).filter λa=>(H a).isSome
def zd5(h:Heap)(H:Hp):Heap:=PySem.W.hideAll h (trk h H)
theorem zkb(h:Heap)(H:Hp):(zd5 h H).objs.size=h.objs.size:=PySem.W.hideAll_size _ _
theorem zlk{h:Heap}{H:Hp}{b:Addr}{o:Obj}(e:h.get? b=some o)(n:H b=none):(zd5 h H).get? b=some o :=
 PySem.W.hideAll_get _ e λhm=>by
  have q:(H b).isSome=true:=(List.mem_filter.mp hm).2;rw[n]at q;simp at q
theorem zos{h:Heap}{H:Hp}{b:Addr}{o:Obj}(e:(zd5 h H).get? b=some o):h.get? b=some o/\H b=none:=by
 have e':h.get? b=some o:=PySem.W.of_hideAll (trk h H) e;refine⟨e',?_⟩
 cases q:H b with
 |none=>rfl
 |some x=>
  have hm:b∈trk h H:=List.mem_filter.mpr ⟨List.mem_range.mpr (Heap.lt_size e'),by simp[q]⟩;have z:(zd5 h H).get? b=none:=PySem.W.hideAll_none (trk h H) hm;rw[z]at e;cases e
def zot(g h:Heap)(L:Addr):List (Addr×Obj):=(List.range h.objs.size).filterMap λa=>if a=L\/(g.get? a).isSome=true then none else (h.get? a).map λo=>(a,o)
def rest(g h:Heap)(L d:Addr):List (Addr×Obj):=(zot g h L).filter λp=>decide (p.1≠d)
structure Mod(K:PySem.W.Frag)(mg:Str->Option Value)(base:Heap):Prop where
 kin:K.In base
 glob:base.Ns mainGlobals mg
 blt:∃mb,base.Ns builtinsNs mb/\∀x:Str,x ≠ "__name__" -> mb x=bootBuiltins x
 nolimit:base.NoLimit
structure Cx where
 prog:Program
 w:World
 K:PySem.W.Frag
 mg:Str->Option Value
 base:Heap
 A:Around
 N:List Str
 s₀:Shared
 H₀:Hp
 env:Env
 outer:List Env
 stack:List Env
 ex:List Addr
 fn:Str->Bool
 calm:Bool
 pn:List (Addr×Obj)
 xe:Value->Shared->Prop
def frs(l:List Env):List Addr:=l.filterMap (·.frame)
abbrev Cx.fs(X:Cx):List Addr:=frs X.outer
def Vis(sc:Scope)(x:Str):Prop:=sc.names.lookup x=some .local\/sc.names.lookup x=some .cell\/sc.names.lookup x=some .free
def Loc(sc:Scope)(x:Str):Prop:=sc.names.lookup x=some .local\/sc.names.lookup x=some .cell
def zvq(env:Env)(h:Heap)(m:Str->Option Value)(x:Str)(u:Value):Prop :=
 (env.kindOf x=some .local/\m x=some u)\/((env.kindOf x=some .cell\/env.kindOf x=some .free)/\∃c,env.cells.lookup x=some c/\h.IsCell c (some u))
structure Cx.Ok(X:Cx):Prop where
 mod:Mod X.K X.mg X.base
 kind:X.env.scope.kind=.function
 glob:X.env.globals=mainGlobals
 blt:X.env.builtins=builtinsNs
 above:X.s₀.heap.objs.size<=X.env.locals
 inj:∀x y c,X.env.cells.lookup x=some c->X.env.cells.lookup y=some c->x=y
 has:∀x,(X.env.kindOf x=some .cell\/X.env.kindOf x=some .free)->∃c,X.env.cells.lookup x=some c
 cab:∀x c,X.fn x=true->X.env.cells.lookup x=some c->X.s₀.heap.objs.size<=c
 hd:X.calm=true->X.A.handled=none
 frames:X.A.frames=some X.stack
 stk:X.stack=X.outer\/(X.stack=X.env::X.outer/\X.env.frame=some X.env.locals)
 exf:∀b∈X.ex,b≠X.env.locals/\∀x c,X.env.cells.lookup x=some c->c≠b
 bs:∀b o,X.base.get? b=some o->X.s₀.heap.get? b=some o/\X.H₀ b=none
 bsz:X.base.objs.size<=X.s₀.heap.objs.size
 noex:∀b o,X.base.get? b=some o->b∉X.ex
 exfs:∀b∈X.ex,b∉X.fs
 funs:X.s₀.heap.FunFrames X.base X.outer
 frf:∀b∈X.fs,X.H₀ b=none
structure Inv(X:Cx)(pins:List (Addr×Obj))(σ:List (Option V))(H:Hp)(s:Shared):Prop where
 ok:X.Ok
 os:s.os=X.s₀.os
 bare:AllBare s.gens
 base:Un X.fs X.ex X.H₀ H X.s₀.heap s.heap
 loc:∃m,s.heap.Ns X.env.locals m/\∀(i:Nat) (x:Str) (v:V),X.N[i]?=some x->σ[i]?=some (some v)->Vis X.env.scope x->∃u,RelV v u/\zvq X.env s.heap m x u
 cell:∀x c,X.env.cells.lookup x=some c->∃v,s.heap.IsCell c v
 free:H X.env.locals=none
 freeC:∀x c,X.env.cells.lookup x=some c->H c=none
 pin:∀p∈X.pn++pins,s.heap.get? p.1=some p.2/\H p.1=none/\p.1≠X.env.locals/\p.1∉X.fs/\∀v,p.2.data ≠ .cell v
 hok:HOk X.prog X.w H s.heap
 len:σ.length=X.N.length
section
variable {X:Cx}{pins:List (Addr×Obj)}{σ:List (Option V)}{H H':Hp}{s:Shared}{h':Heap}
theorem Cx.Ok.nofr(ok:X.Ok){b:Addr}{o:Obj}(e:X.base.get? b=some o):b∉X.fs:=λhb=>by
 have:=(ok.funs.mem hb).1;rw[e]at this;cases this
theorem Inv.bs(I:Inv X pins σ H s):∀b o,X.base.get? b=some o->s.heap.get? b=some o/\H b=none:=λb o e=>
 ⟨I.base.keep b o (I.ok.bs b o e).1 (I.ok.bs b o e).2 (I.ok.nofr e) (I.ok.noex b o e),I.base.free b o (I.ok.bs b o e).1 (I.ok.bs b o e).2 (I.ok.noex b o e)⟩
theorem Inv.bk(I:Inv X pins σ H s):∀b o,X.base.get? b=some o->s.heap.get? b=some o:=λb o e=>(I.bs b o e).1
theorem Inv.mod(I:Inv X pins σ H s):Mod X.K X.mg X.base:=I.ok.mod
theorem Inv.kIn(I:Inv X pins σ H s):X.K.In s.heap:=I.ok.mod.kin.keeps I.bk
theorem Inv.lt(I:Inv X pins σ H s):X.env.locals<s.heap.objs.size:=let ⟨_,hn,_⟩:=I.loc;hn.lt
theorem Inv.sz(I:Inv X pins σ H s):X.s₀.heap.objs.size<=s.heap.objs.size:=Nat.le_trans I.ok.above (Nat.le_of_lt I.lt)
theorem Inv.nofs(I:Inv X pins σ H s){a:Addr}(h:s.heap.objs.size<=a):a∉X.fs:=λhb=>by
 obtain⟨_,o,ho,_⟩:=I.ok.funs.mem hb;exact absurd (Nat.lt_of_lt_of_le (Heap.lt_size ho) (Nat.le_trans I.sz h)) (Nat.lt_irrefl _)
theorem Inv.cne(I:Inv X pins σ H s):∀x c,X.env.cells.lookup x=some c->c≠X.env.locals:=λx c e z=>by
 obtain⟨v,o,ho,hd⟩:=I.cell x c e;obtain⟨m,⟨o',es,ep,ho',hd',_⟩,_⟩:=I.loc;rw[z,ho']at ho;cases ho;rw[hd']at hd;cases hd
theorem Inv.funs(I:Inv X pins σ H s):s.heap.FunFrames X.base X.outer:=by
 have all:∀(l:List Env),(∀b∈frs l,b∈X.fs)->X.s₀.heap.FunFrames X.base l->s.heap.FunFrames X.base l:=by
  intro l
  induction l with
  |nil=>intro _ _;trivial
  |cons env r ih=>
   intro hs hl;obtain⟨hk,⟨L,o,hf,hn,ho,hd⟩,hr⟩:=hl;have hL:L∈X.fs:=hs L (by unfold frs;rw[List.filterMap_cons,hf];exact List.mem_cons_self);obtain⟨sl,e⟩:=I.base.slot L o ho (I.ok.frf L hL) hL λz=>I.ok.exfs L z hL;exact⟨hk,⟨L,_,hf,hn,e,hd⟩,ih (λb hb=>hs b (by unfold frs;rw[List.filterMap_cons,hf];exact List.mem_cons_of_mem _ hb)) hr⟩
 exact all X.outer (λ_ hb=>hb) I.ok.funs
theorem Inv.stack(I:Inv X pins σ H s):s.heap.FunFrames X.base X.stack:=by
 rcases I.ok.stk with e |⟨e,hf⟩
 ·rw[e];exact I.funs
 ·rw[e];obtain⟨m,hn,_⟩:=I.loc;refine .cons (by rw[I.ok.kind];decide) hf hn ?_ I.funs;exact Heap.get?_none_of_le (Nat.le_trans I.ok.bsz I.ok.above)
theorem Inv.stkSub(I:Inv X pins σ H s):∀b∈frs X.stack,b∈X.env.locals::X.fs:=λb hb=>by
 rcases I.ok.stk with e |⟨e,hf⟩
 ·rw[e]at hb;exact List.mem_cons_of_mem _ hb
 ·rw[e]at hb;unfold frs at hb;rw[List.filterMap_cons,hf]at hb;exact hb
theorem Inv.stkFree(I:Inv X pins σ H s):∀b∈frs X.stack,H b=none:=λb hb=>by
 rcases List.mem_cons.mp (I.stkSub b hb) with e|hb
 ·rw[e];exact I.free
 ·obtain⟨_,o,ho,_⟩:=I.ok.funs.mem hb;exact I.base.free b o ho (I.ok.frf b hb) λz=>I.ok.exfs b z hb
theorem Inv.step{g':Array GenState}{t':Nat}{d':Drawn}{ch:List Addr}(I:Inv X pins σ H s)
  (hch:∀b∈ch,(b∈X.ex\/X.s₀.heap.objs.size<=b)/\b≠X.env.locals/\(∀x c,X.env.cells.lookup x=some c->c≠b)/\∀p∈X.pn++pins,p.1≠b)
  (keep:∀b o,b≠X.env.locals->b∉X.fs->b∉ch->s.heap.get? b=some o->H b=none->h'.get? b=some o)
  (slot:∀b o,b≠X.env.locals->b∈X.fs->b∉ch->s.heap.get? b=some o->H b=none->∃sl,h'.get? b=some { o with slots:=sl }) (free:∀b o,b∉ch->s.heap.get? b=some o->H b=none->H' b=none)
  (there:∀b o,b∉ch->s.heap.get? b=some o->∃o',h'.get? b=some o')
  (tups:∀b xs,H b=some (.tup xs)->H' b=some (.tup xs)) (frzs:∀b o u,H b=some (.frz o u)->H' b=some (.frz o u)) (tbls:∀b ps,H b=some (.tbl ps)->∃more,H' b=some (.tbl (ps++more)))
  (ns:∀m,s.heap.Ns X.env.locals m->h'.Ns X.env.locals m) (hok:HOk X.prog X.w H' h') (hg:AllBare g') :
  Inv X pins σ H' { s with heap:=h',gens:=g',drawn:=d',toks:=t' }:=by
 have neL:∀b o,X.s₀.heap.get? b=some o->b≠X.env.locals:=λb o e=>Nat.ne_of_lt (Nat.lt_of_lt_of_le (Heap.lt_size e) I.ok.above);have neC:∀b o,X.s₀.heap.get? b=some o->b∉X.ex->b∉ch:=λb o e hx hb=>by
  rcases (hch b hb).1 with z|z
  ·exact hx z
  ·exact absurd (Nat.lt_of_lt_of_le (Heap.lt_size e) z) (Nat.lt_irrefl _)
 have cellK:∀x c,X.env.cells.lookup x=some c->∀v,s.heap.IsCell c v->h'.IsCell c v:=λx c e v ⟨o,ho,hd⟩=>by
  have nch:c∉ch:=λz=>(hch c z).2.2.1 x c e rfl
  by_cases hc:c∈X.fs
  ·obtain⟨sl,q⟩:=slot c o (I.cne x c e) hc nch ho (I.freeC x c e);exact⟨_,q,hd⟩
  ·exact⟨o,keep c o (I.cne x c e) hc nch ho (I.freeC x c e),hd⟩
 refine⟨I.ok,I.os,hg,⟨λb o e n hb hx=>?_,λb o e n hb hx=>?_,λb o e n hx=>?_,λb o e hx=>?_,λb xs e=>tups b xs (I.base.tups b xs e),λb o xs e=>frzs b o xs (I.base.frzs b o xs e),λb ps e=>?_⟩,?_,λx c e=>?_,?_,λx c e=>?_,λp hp=>?_,hok,I.len⟩
 ·exact keep b o (neL b o e) hb (neC b o e hx) (I.base.keep b o e n hb hx) (I.base.free b o e n hx)
 ·obtain⟨sl,e1⟩:=I.base.slot b o e n hb hx;obtain⟨sl',e2⟩:=slot b _ (neL b o e) hb (neC b o e hx) e1 (I.base.free b o e n hx);exact⟨sl',e2⟩
 ·obtain⟨o',e1⟩:=I.base.there b o e hx;exact free b o' (neC b o e hx) e1 (I.base.free b o e n hx)
 ·obtain⟨o',e1⟩:=I.base.there b o e hx;exact there b o' (neC b o e hx) e1
 ·obtain⟨m1,e1⟩:=I.base.tbls b ps e;obtain⟨m2,e2⟩:=tbls b _ e1;exact⟨m1++m2,by rw[e2,Array.append_assoc]⟩
 ·obtain⟨m,hn,hl⟩:=I.loc;refine⟨m,ns m hn,λi x v e1 e2 e3=>?_⟩;obtain⟨u,r,l⟩:=hl i x v e1 e2 e3;refine⟨u,r,?_⟩;rcases l with l |⟨k,c,e,z⟩
  ·exact .inl l
  ·exact .inr ⟨k,c,e,cellK x c e _ z⟩
 ·obtain⟨v,z⟩:=I.cell x c e;exact⟨v,cellK x c e v z⟩
 ·obtain⟨m,⟨o,_,_,ho,_⟩,_⟩:=I.loc;exact free _ o (λz=>(hch _ z).2.1 rfl) ho I.free
 ·obtain⟨v,o,ho,hd⟩:=I.cell x c e;exact free c o (λz=>(hch c z).2.2.1 x c e rfl) ho (I.freeC x c e)
 ·obtain⟨e,n,ne,nf,d⟩:=I.pin p hp;have nch:p.1∉ch:=λz=>(hch p.1 z).2.2.2 p hp rfl;exact⟨keep p.1 p.2 ne nf nch e n,free p.1 p.2 nch e n,ne,nf,d⟩
theorem Inv.un{t':Nat}(I:Inv X pins σ H s)(u:Un X.fs [] H H' s.heap h')(hok:HOk X.prog X.w H' h'):Inv X pins σ H' { s with heap:=h',toks:=t' }:=by
 obtain⟨m,⟨o,es,ep,ho,r⟩,_⟩:=id I.loc;obtain⟨sl,hL⟩:=u.any ho I.free (by simp);exact I.step (g':=s.gens) (d':=s.drawn) (ch:=[]) (λ_ z=>nomatch z) (λb o _ hb _ e n=>u.keep b o e n hb (by simp)) (λb o _ hb _ e n=>u.slot b o e n hb (by simp)) (λb o _ e n=>u.free b o e n (by simp)) (λb o _ e=>u.there b o e (by simp)) u.tups u.frzs u.tbls (λm' hm=>by
  obtain⟨o',es',ep',ho',r'⟩:=hm;rw[ho]at ho';cases ho';exact⟨_,es',ep',hL,r'⟩) hok I.bare
theorem Inv.call{g':Array GenState}{t':Nat}{d':Drawn}{ch:List Addr}(I:Inv X pins σ H s)(u:Un (frs X.stack) ch H H' s.heap h')(hok:HOk X.prog X.w H' h')(hg:AllBare g')
  (hch:∀b∈ch,(b∈X.ex\/X.s₀.heap.objs.size<=b)/\b≠X.env.locals/\(∀x c,X.env.cells.lookup x=some c->c≠b)/\∀p∈X.pn++pins,p.1≠b) :
  Inv X pins σ H' { s with heap:=h',gens:=g',drawn:=d',toks:=t' }:=by
 obtain⟨m,⟨o,es,ep,ho,r⟩,_⟩:=id I.loc;obtain⟨sl,hL⟩:=u.any ho I.free λz=>(hch _ z).2.1 rfl;exact I.step (ch:=ch) hch (λb o hL hb hc e n=>u.keep b o e n (λz=>(List.mem_cons.mp (I.stkSub b z)).elim hL hb) hc) (λb o _ _ hc e n=>u.any e n hc) (λb o hc e n=>u.free b o e n hc) (λb o hc e=>u.there b o e hc) u.tups u.frzs u.tbls (λm' hm=>by
  obtain⟨o',es',ep',ho',r'⟩:=hm;rw[ho]at ho';cases ho';exact⟨_,es',ep',hL,r'⟩) hok hg
theorem Inv.turned{t':Nat}{it:Addr}(I:Inv X pins σ H s)(k:∀b o,b≠it->s.heap.get? b=some o->h'.get? b=some o)(hn:H it=none)(hL:it≠X.env.locals)
  (h1:it∈X.ex\/X.s₀.heap.objs.size<=it) (h2:∀x c,X.env.cells.lookup x=some c->c≠it) (h3:∀p∈X.pn++pins,p.1≠it):Inv X pins σ H { s with heap:=h',toks:=t' }:=by
 have nit:∀b u,H b=some u->b≠it:=λb u e z=>by rw[z,hn]at e;cases e
 refine I.step (g':=s.gens) (d':=s.drawn) (ch:=[it]) (λb hb=>?_) (λb o _ _ hc e _=>k b o (λz=>hc (by simp[z])) e) (λb o _ _ hc e _=>⟨o.slots,k b o (λz=>hc (by simp[z])) e⟩) (λ_ _ _ _ n=>n)
  (λb o hc e=>⟨o,k b o (λz=>hc (by simp[z])) e⟩) (λ_ _ e=>e) (λ_ _ _ e=>e) (λb ps e=>⟨#[],by rw[e];simp⟩) (λm hm=>?_) (λb u e=>?_) I.bare
 ·have e:b=it:=by simpa using hb
  subst e;exact⟨h1,hL,h2,h3⟩
 ·obtain⟨o,es,ep,ho,r⟩:=hm;exact⟨o,es,ep,k _ o (Ne.symm hL) ho,r⟩
 ·refine(I.hok b u e).stay (λc v hc q=>k c v ?_ q) (λ_ q=>q) λ_ _ q=>q;rcases hc with z|z
  ·rw[z];exact nit b u e
  ·exact nit c _ z
theorem Inv.tok(I:Inv X pins σ H s)(t:Nat):Inv X pins σ H { s with toks:=t }:=I.un (h':=s.heap) (t':=t) Un.refl I.hok
theorem Inv.kept{t':Nat}(I:Inv X pins σ H s)(k:∀b u,s.heap.get? b=some u->h'.get? b=some u):Inv X pins σ H { s with heap:=h',toks:=t' }:=I.un (Un.kept k) (I.hok.kept k)
theorem Inv.laid{a:Addr}{o:HO}{t':Nat}(I:Inv X pins σ H s)(k:∀b u,s.heap.get? b=some u->h'.get? b=some u)(hp:s.heap.objs.size<=a)(new:ObjOk X.prog X.w (upd H a o) h' a o):
  Inv X pins σ (upd H a o) { s with heap:=h',toks:=t' }:=I.un (Un.laid k hp (I.hok.fresh hp)) (I.hok.laid k hp new)
theorem Inv.write{x e:Addr}{o:HO}{t':Nat}(I:Inv X pins σ H s)(mu:Mut (H x))(he:e=x\/H e=some (.own x))(k:∀b u,b≠e->s.heap.get? b=some u->h'.get? b=some u)(heo:∃u,h'.get? e=some u)
  (new:ObjOk X.prog X.w (upd H x o) h' x o):Inv X pins σ (upd H x o) { s with heap:=h',toks:=t' }:=I.un (Un.write mu he k heo) (I.hok.write mu he k heo new)
theorem Inv.pins_of{pins':List (Addr×Obj)}(I:Inv X pins σ H s)(h:∀p∈pins',s.heap.get? p.1=some p.2/\H p.1=none/\p.1≠X.env.locals/\p.1∉X.fs/\∀v,p.2.data ≠ .cell v):Inv X pins' σ H s :=
 ⟨I.ok,I.os,I.bare,I.base,I.loc,I.cell,I.free,I.freeC,λp hp=>(List.mem_append.mp hp).elim (λz=>I.pin p (List.mem_append_left _ z)) (h p),I.hok,I.len⟩
theorem zfd{N:List Str}(hN:N.Nodup){i j:Nat}{x:Str}(a:N[i]?=some x)(b:N[j]?=some x):i=j:=by
 obtain⟨h1,e1⟩:=List.getElem?_eq_some_iff.mp a;obtain⟨h2,e2⟩:=List.getElem?_eq_some_iff.mp b;exact(List.getElem_inj hN).mp (e1.trans e2.symm)
theorem zdd{M:Model}{A:Around}{E:Value->Shared->Prop}{i:Nat}{x:Str}{v:V}{u:Value}{Q:Unit->Shared->Prop}(I:Inv X pins σ H s)(hN:X.N.Nodup)(hi:X.N[i]?=some x)(hx:Loc X.env.scope x)(r:RelV v u)
  (h:∀s',Inv X pins (σ.set i (some v)) H s'->(∃a,Heap.SameBut a s.heap s'.heap/\(a=X.env.locals\/X.env.cells.lookup x=some a))->Q () s') (hf:X.fn x=true\/X.env.scope.names.lookup x=some .local:=by first|exact .inl rfl|exact .inr rfl|assumption):wpAny M A (storeName X.env x u) Q E s:=by
 obtain⟨m,hn,hl⟩:=id I.loc;have hcls:(X.env.scope.kind == .class ||(X.env.scope.kind == .module && X.env.locals != X.env.globals))=false:=by rw[I.ok.kind];rfl
 have hiσ:i<σ.length:=by rw[I.len];exact(List.getElem?_eq_some_iff.mp hi).1
 have cne:=I.cne;have tracked:∀{a:Addr}{h':Heap},(∃o,s.heap.get? a=some o/\H a=none)->Heap.SameBut a s.heap h'->HOk X.prog X.w H h':=λ{a h'} ha hs b ob e=>by
  obtain⟨_,_,hfree⟩:=ha;refine(I.hok b ob e).stay (λc w' hc q=>(hs.2 c ?_).trans q) (λ_ q=>q) λ_ _ q=>q;rintro rfl;rcases hc with rfl|hc
  ·rw[hfree]at e;cases e
  ·rw[hfree]at hc;cases hc
 rcases hx with hk|hk
 ·refine wpAny_storeName_local hk hn (λh' hn' hs=>?_) hcls;obtain⟨oL,_,_,hoL,_⟩:=id hn;refine h _ ⟨I.ok,I.os,I.bare,⟨λb o e n hb hx=>?_,λb o e n hb hx=>?_,I.base.free,λb o e hx=>?_,I.base.tups,I.base.frzs,I.base.tbls⟩,⟨_,hn',λj y v' e1 e2 e3=>?_⟩,λy c e=>?_,I.free,I.freeC,λp hp=>?_,tracked ⟨oL,hoL,I.free⟩ hs,by simpa using I.len⟩ ⟨_,hs,.inl rfl⟩
  ·exact(hs.2 b (Nat.ne_of_lt (Nat.lt_of_lt_of_le (Heap.lt_size e) I.ok.above))).trans (I.base.keep b o e n hb hx)
  ·obtain⟨sl,e1⟩:=I.base.slot b o e n hb hx;exact⟨sl,(hs.2 b (Nat.ne_of_lt (Nat.lt_of_lt_of_le (Heap.lt_size e) I.ok.above))).trans e1⟩
  ·obtain⟨o',e1⟩:=I.base.there b o e hx;exact⟨o',(hs.2 b (Nat.ne_of_lt (Nat.lt_of_lt_of_le (Heap.lt_size e) I.ok.above))).trans e1⟩
  ·by_cases hj:j=i
   ·subst hj;rw[hi]at e1;cases e1;rw[List.getElem?_set_self hiσ]at e2
    cases e2;exact⟨u,r,.inl ⟨hk,by simp⟩⟩
   ·rw[List.getElem?_set_ne (Ne.symm hj)]at e2;obtain⟨u',r',q⟩:=hl j y v' e1 e2 e3;refine⟨u',r',?_⟩;rcases q with⟨k,e⟩ |⟨k,c,e,z⟩
    ·refine .inl ⟨k,?_⟩;have:y≠x:=λe=>hj (zfd hN e1 (e ▸ hi));simp[this,e]
    ·exact .inr ⟨k,c,e,z.sameBut hs (cne y c e)⟩
  ·obtain⟨w',z⟩:=I.cell y c e;exact⟨w',z.sameBut hs (cne y c e)⟩
  ·obtain⟨e,n,ne,nf,d⟩:=I.pin p hp;exact⟨(hs.2 p.1 ne).trans e,n,ne,nf,d⟩
 ·have hfn:X.fn x=true:=by
   rcases hf with z|z
   ·exact z
   ·rw[z]at hk;cases hk
  obtain⟨c,hc⟩:=I.ok.has x (.inl hk);obtain⟨w',z⟩:=I.cell x c hc;refine wpAny_storeName_cell I.ok.kind hk hc z (λh' hc' hs=>?_);obtain⟨oc,hoc,hocd⟩:=id z;refine h { s with heap:=h' } ⟨I.ok,I.os,I.bare,⟨λb o e n hb hx=>?_,λb o e n hb hx=>?_,I.base.free,λb o e hx=>?_,I.base.tups,I.base.frzs,I.base.tbls⟩,⟨m,hn.sameBut hs (Ne.symm (cne x c hc)),λj y v' e1 e2 e3=>?_⟩,λy c' e=>?_,I.free,I.freeC,λp hp=>?_,tracked ⟨oc,hoc,I.freeC x c hc⟩ hs,by simpa using I.len⟩ ⟨c,hs,.inr hc⟩
  ·exact(hs.2 b (Nat.ne_of_lt (Nat.lt_of_lt_of_le (Heap.lt_size e) (I.ok.cab x c hfn hc)))).trans (I.base.keep b o e n hb hx)
  ·obtain⟨sl,e1⟩:=I.base.slot b o e n hb hx;exact⟨sl,(hs.2 b (Nat.ne_of_lt (Nat.lt_of_lt_of_le (Heap.lt_size e) (I.ok.cab x c hfn hc)))).trans e1⟩
  ·obtain⟨o',e1⟩:=I.base.there b o e hx;exact⟨o',(hs.2 b (Nat.ne_of_lt (Nat.lt_of_lt_of_le (Heap.lt_size e) (I.ok.cab x c hfn hc)))).trans e1⟩
  ·by_cases hj:j=i
   ·subst hj;rw[hi]at e1;cases e1;rw[List.getElem?_set_self hiσ]at e2
    cases e2;exact⟨u,r,.inr ⟨.inl hk,c,hc,hc'⟩⟩
   ·rw[List.getElem?_set_ne (Ne.symm hj)]at e2;obtain⟨u',r',q⟩:=hl j y v' e1 e2 e3;refine⟨u',r',?_⟩;rcases q with q |⟨k,c',e,z'⟩
    ·exact .inl q
    ·refine .inr ⟨k,c',e,z'.sameBut hs ?_⟩;rintro rfl;exact hj (zfd hN e1 (I.ok.inj _ _ _ e hc ▸ hi))
  ·by_cases hcc:c'=c
   ·subst hcc;exact⟨_,hc'⟩
   ·obtain⟨w2,z2⟩:=I.cell y c' e;exact⟨w2,z2.sameBut hs hcc⟩
  ·obtain⟨e,n,ne,nf,d⟩:=I.pin p hp;refine⟨(hs.2 p.1 ?_).trans e,n,ne,nf,d⟩;intro q;rw[q,hoc]at e;have q':oc=p.2:=Option.some.inj e;exact d w' (by rw[<-q'];exact hocd)
theorem jv{M:Model}{A:Around}{E:Value->Shared->Prop}{i:Nat}{x:Str}{v:V}{u:Value}{Q:Unit->Shared->Prop}(I:Inv X pins σ H s)(hN:X.N.Nodup)(hi:X.N[i]?=some x)(hx:Loc X.env.scope x)(r:RelV v u)
  (h:∀s',Inv X pins (σ.set i (some v)) H s'->Q () s') (hf:X.fn x=true\/X.env.scope.names.lookup x=some .local:=by first|exact .inl rfl|exact .inr rfl|assumption):wpAny M A (storeName X.env x u) Q E s :=
 zdd I hN hi hx r (λs' I' _=>h s' I') hf
theorem Inv.call'{s':Shared}{ch:List Addr}(I:Inv X pins σ H s)(ho:s'.os=s.os)(u:Un (frs X.stack) ch H H' s.heap s'.heap)(hok:HOk X.prog X.w H' s'.heap)(hg:AllBare s'.gens)
  (hch:∀b∈ch,(b∈X.ex\/X.s₀.heap.objs.size<=b)/\b≠X.env.locals/\(∀x c,X.env.cells.lookup x=some c->c≠b)/\∀p∈X.pn++pins,p.1≠b):Inv X pins σ H' s':=by
 obtain⟨h',g',d',t',o'⟩:=s';have e:o'=s.os:=ho;subst e;exact I.call (g':=g') (t':=t') (d':=d') u hok hg hch
end
abbrev XK:=Value->Option Addr->Hp->Prop
abbrev St:=List (Option V)
abbrev VK:=V->Hp->Prop
abbrev TE:=St->Hp->VK->Prop
abbrev TT:=St->Hp->(Bool->Hp->Prop)->Prop
abbrev TA:=St->Hp->(List V->Hp->Prop)->Prop
structure zg3 where
 nx:St->Hp->Prop
 rt:VK
 bk:St->Hp->Prop:=λ_ _=>False
 ct:St->Hp->Prop:=λ_ _=>False
abbrev TS:=zg3->St->Hp->Prop
def EP(X:Cx)(pins:List (Addr×Obj))(σ:St)(Q:VK)(u:Value)(s':Shared):Prop:=∃v H',Inv X pins σ H' s'/\RelV v u/\Q v H'
def TP(X:Cx)(pins:List (Addr×Obj))(σ:St)(Q:Bool->Hp->Prop)(b:Bool)(s':Shared):Prop:=∃H',Inv X pins σ H' s'/\Q b H'
def AP(X:Cx)(pins:List (Addr×Obj))(σ:St)(Q:List V->Hp->Prop)(us:List Value)(s':Shared):Prop:=∃vs H',Inv X pins σ H' s'/\Vals vs us/\Q vs H'
def SP(X:Cx)(pins:List (Addr×Obj))(D:zg3)(f:Flow)(s':Shared):Prop :=
 match f with
 |.next=>∃σ' H',Inv X pins σ' H' s'/\D.nx σ' H'
 |.brk=>∃σ' H',Inv X pins σ' H' s'/\D.bk σ' H'
 |.cont=>∃σ' H',Inv X pins σ' H' s'/\D.ct σ' H'
 |.ret u=>∃v σ' H',Inv X pins σ' H' s'/\RelV v u/\D.rt v H'
def PE(X:Cx)(e:Expr)(t:TE):Prop :=
 ∀(pins:List (Addr×Obj)) (s:Shared) (σ:St) (H:Hp) (Q:VK),Inv X pins σ H s->t σ H Q->wpAny (model X.prog X.w) X.A (eval e X.env) (EP X pins σ Q) X.xe s
def PT(X:Cx)(e:Expr)(t:TT):Prop :=
 ∀(pins:List (Addr×Obj)) (s:Shared) (σ:St) (H:Hp) (Q:Bool->Hp->Prop),Inv X pins σ H s->t σ H Q->wpAny (model X.prog X.w) X.A (isTrue e X.env (eval e X.env)) (TP X pins σ Q) X.xe s
def PW(X:Cx)(e:Expr)(t:TT):Prop :=
 ∀(whole:Sem Value) (pins:List (Addr×Obj)) (s:Shared) (σ:St) (H:Hp) (Q:Bool->Hp->Prop),Inv X pins σ H s->t σ H Q->wpAny (model X.prog X.w) X.A (isTrue e X.env whole) (TP X pins σ Q) X.xe s
theorem PW.pt{X:Cx}{e:Expr}{t:TT}(h:PW X e t):PT X e t:=h _
def PA(X:Cx)(es:List Expr)(t:TA):Prop :=
 ∀(pos:Pos) (pins:List (Addr×Obj)) (s:Shared) (σ:St) (H:Hp) (Q:List V->Hp->Prop),Inv X pins σ H s->t σ H Q->wpAny (model X.prog X.w) X.A (spliced (backTo pos (starEach es X.env))) (AP X pins σ Q) X.xe s
def PS(X:Cx)(st:Stmt)(t:TS):Prop :=
 ∀(pins:List (Addr×Obj)) (s:Shared) (σ:St) (H:Hp) (D:zg3),Inv X pins σ H s->t D σ H->wpAny (model X.prog X.w) X.A (exec st X.env) (SP X pins D) X.xe s
def PSs(X:Cx)(st:List Stmt)(t:TS):Prop :=
 ∀(pins:List (Addr×Obj)) (s:Shared) (σ:St) (H:Hp) (D:zg3),Inv X pins σ H s->t D σ H->wpAny (model X.prog X.w) X.A (execs st X.env) (SP X pins D) X.xe s
theorem thn{α:Type}{t:Sem α}{Q Q':α->Shared->Prop}{M:Model}{A:Around}{E:Value->Shared->Prop}{s:Shared}(h:wpAny M A t Q E s)(hQ:∀a s,Q a s->Q' a s):wpAny M A t Q' E s:=wpAny_mono h hQ λ_ _ x=>x
section
variable {X:Cx}
def ztz(i:Nat):TE:=λσ H Q=>∃v,σ[i]?=some (some v)/\Q v H
def tC(v:V):TE:=λ_ H Q=>Q v H
theorem y4{i:Nat}{x:Str}{pos:Pos}(hN:X.N[i]?=some x)(hv:Vis X.env.scope x)(hd:(x ==("__debug__" : Str))=false:=by decide)(hcd:(x ==("__classdict__" : Str))=false:=by decide):PE X (.Name x pos) (ztz i):=by
 intro pins s σ H Q I h;obtain⟨v,e,h⟩:=h;obtain⟨m,hn,hl⟩:=I.loc;obtain⟨u,r,l⟩:=hl i x v hN e hv;have fin:EP X pins σ Q u s:=⟨v,H,I,r,h⟩
 rcases l with⟨hk,hm⟩ |⟨hk,c,hc,hcell⟩
 ·exact wpAny_Name (wpAny_loadName_local I.ok.kind hk hn hm fin) hd
 ·rcases hk with hk|hk
  ·exact wpAny_Name (wpAny_loadName_cell I.ok.kind hk hc hcell fin) hd
  ·exact wpAny_Name (wpAny_loadName_free I.ok.kind hk hc hcell fin hcd) hd
theorem xr{i j pos}:PE X (.Constant (.int i) j pos) (tC (.int i)):=λ_ _ _ H _ I h=>wpAny_Constant_int ⟨.int i,H,I.tok _,⟨_,rfl⟩,h⟩
theorem zt0{b j pos}:PE X (.Constant (.bool b) j pos) (tC (.bl b)):=λ_ _ _ H _ I h=>Constant_bool ⟨.bl b,H,I,rfl,h⟩
theorem zre{j pos}:PE X (.Constant .none j pos) (tC .non):=λ_ _ _ H _ I h=>Constant_none ⟨.non,H,I,rfl,h⟩
theorem zrf{x j pos}:PE X (.Constant (.str x) j pos) (tC (.str x)):=λ_ _ _ H _ I h=>Calls.Constant_str ⟨.str x,H,I.tok _,⟨_,rfl⟩,h⟩
def Gl(X:Cx)(x:Str):Prop:=X.env.kindOf x=some .globalImplicit
theorem ziu{E:Value->Shared->Prop}{pins:List (Addr×Obj)}{s:Shared}{σ:St}{H:Hp}{x:Str}{u:Value}{pos:Pos}{Q:Value->Shared->Prop}(I:Inv X pins σ H s)(hg:Gl X x)(hm:X.mg x=some u)(h:Q u s)
  (hd:(x ==("__debug__" : Str))=false:=by decide):wpAny (model X.prog X.w) X.A (eval (.Name x pos) X.env) Q E s :=
 Calls.Name_function_global I.ok.kind hg (Calls.loadGlobal_global (by rw[I.ok.glob];exact I.mod.glob.keeps I.bk) hm h) hd
theorem jb{E:Value->Shared->Prop}{pins:List (Addr×Obj)}{s:Shared}{σ:St}{H:Hp}{x:Str}{u:Value}{pos:Pos}{Q:Value->Shared->Prop}(I:Inv X pins σ H s)(hg:Gl X x)(hm:X.mg x=none)(hv:bootBuiltins x=some u)(h:Q u s)
  (hn:x ≠ "__name__" := by decide) (hd:(x ==("__debug__" : Str))=false:=by decide):wpAny (model X.prog X.w) X.A (eval (.Name x pos) X.env) Q E s:=by
 obtain⟨mb,h1,h2⟩:=I.mod.blt;exact Calls.Name_function_global I.ok.kind hg (Calls.loadGlobal_builtin (by rw[I.ok.glob];exact I.mod.glob.keeps I.bk) hm (by rw[I.ok.blt];exact h1.keeps I.bk) ((h2 x hn).trans hv) h) hd
theorem zou{x:Str}{v:V}{u:Value}{pos:Pos}(hg:Gl X x)(hm:X.mg x=some u)(r:RelV v u)(hd:(x ==("__debug__" : Str))=false:=by decide):PE X (.Name x pos) (tC v) :=
 λ_ _ _ H _ I h=>ziu I hg hm ⟨v,H,I,r,h⟩ hd
theorem zov{x:Str}{v:V}{u:Value}{pos:Pos}(hg:Gl X x)(hm:X.mg x=none)(hv:bootBuiltins x=some u)(r:RelV v u)(hn:x ≠ "__name__" := by decide)(hd:(x ==("__debug__" : Str))=false:=by decide):PE X (.Name x pos) (tC v) :=
 λ_ _ _ H _ I h=>jb I hg hm hv ⟨v,H,I,r,h⟩ hn hd
variable {a b:Expr}{ta tb:TE}{pos:Pos}
variable {tA tB':TT}{rest:List Expr}
def zvr(t u:TT):TT:=λσ H Q=>t σ H λc H1=>if c=true then u σ H1 Q else Q false H1
theorem zow(ha:PT X a tA):PW X (.BoolOp .And [a] pos) tA:=by
 intro wh pins s σ H Q I h;refine isTrue_and (thn (ha pins s σ H Q I h) λc s1 e=>?_)
 cases c with
 |true=>exact isTrue_and_nil e
 |false=>exact e
theorem zrg(ha:PT X a tA)(hb:PW X (.BoolOp .And (b::rest) pos) tB'):PW X (.BoolOp .And (a::b::rest) pos) (zvr tA tB'):=by
 intro wh pins s σ H Q I h;refine isTrue_and (thn (ha pins s σ H _ I h) λc s1 ⟨H1,I1,q1⟩=>?_)
 cases c with
 |true=>exact hb wh pins s1 σ H1 Q I1 q1
 |false=>exact⟨H1,I1,q1⟩
def tIf(t:TT)(ta tb:TE):TE:=λσ H Q=>t σ H λc H1=>if c=true then ta σ H1 Q else tb σ H1 Q
theorem zll{c:Expr}(hc:PT X c tA)(ha:PE X a ta)(hb:PE X b tb):PE X (.IfExp c a b pos) (tIf tA ta tb):=by
 intro pins s σ H Q I h;refine wpAny_IfExp (thn (hc pins s σ H _ I h) λd s1 ⟨H1,I1,q1⟩=>?_)
 cases d with
 |true=>exact ha pins s1 σ H1 Q I1 q1
 |false=>exact hb pins s1 σ H1 Q I1 q1
end
def SqL(K:PySem.W.Frag)(H:Hp)(a:Addr)(xs:List V):Prop :=
 Rd H a (.lst xs) \/
  ∃(o:Obj) (its:Array Value) (n:Nat),K.lookup a=some o/\o.cls=.type "list" /\ o.dict=none/\o.data=.seq its n/\its.size<=sizeLine/\Vals xs its.toList
def SqT(K:PySem.W.Frag)(H:Hp)(a:Addr)(xs:List V):Prop :=
 Rd H a (.tup xs) \/
  ∃(o:Obj) (its:Array Value) (n:Nat),K.lookup a=some o/\o.cls=.type "tuple" /\ o.dict=none/\o.data=.seq its n/\its.size<=sizeLine/\Vals xs its.toList
def zvs:Value->Option V
 |.none=>some .non
 |.bool b=>some (.bl b)
 |.int i _=>some (.int i)
 |.str x _=>some (.str x)
 |.bytes b _=>some (.byt b)
 |.float b _=>some (.flt b)
 |.ref a=>some (.ref a)
 |.type n=>some (.ty n)
 |_=>none
theorem RelV.abs{x:V}{u:Value}(r:RelV x u):zvs u=some x:=by
 cases x with
 |non=>cases r;rfl
 |bl _=>cases r;rfl
 |int _=>obtain⟨t,rfl⟩:=r;rfl
 |str _=>obtain⟨t,rfl⟩:=r;rfl
 |byt _=>obtain⟨t,rfl⟩:=r;rfl
 |flt _=>obtain⟨t,rfl⟩:=r;rfl
 |ref _=>cases r;rfl
 |ty _=>cases r;rfl
theorem RelV.inj{x y:V}{u:Value}(r:RelV x u)(q:RelV y u):x=y:=Option.some.inj (r.abs.symm.trans q.abs)
theorem Vals.inj{xs ys:List V}{us:List Value}(h:Vals xs us)(h':Vals ys us):xs=ys:=by
 induction h generalizing ys with
 |nil=>cases h';rfl
 |cons r t ih=>
  cases h' with
  |cons r' t'=>rw[r.inj r',ih t']
section
variable {X:Cx}{pins:List (Addr×Obj)}{σ:St}{H:Hp}{s:Shared}{a:Addr}{xs ys:List V}
theorem SqL.of{K:PySem.W.Frag}(h:H a=some (.lst xs)):SqL K H a xs:=.inl (.inl h)
theorem SqT.of{K:PySem.W.Frag}(h:H a=some (.tup xs)):SqT K H a xs:=.inl (.inl h)
theorem Inv.list(I:Inv X pins σ H s)(h:SqL X.K H a xs):∃its:List Value,Vals xs its/\PlainL s.heap a its.toArray/\xs.length<=sizeLine:=by
 rcases h with h |⟨o,its,n,hk,hc,hd,hs,hz,r⟩
 ·obtain⟨z,its,n,r,e⟩:=h.ok I.hok;exact⟨its,r,⟨_,n,e,rfl,rfl,rfl⟩,z⟩
 ·refine⟨its.toList,r,⟨o,n,I.kIn a o hk,hc,hd,by simpa using hs⟩,?_⟩;have e:=r.length;simp only[Array.length_toList]at e;lia
theorem Inv.tupleD(I:Inv X pins σ H s)(h:SqT X.K H a xs):∃its:List Value,Vals xs its/\TupD s.heap a its.toArray/\xs.length<=sizeLine:=by
 rcases h with h |⟨o,its,n,hk,hc,hd,hs,hz,r⟩
 ·obtain⟨z,its,r,p⟩:=h.ok I.hok;exact⟨its,r,p,z⟩
 ·refine⟨its.toList,r,⟨o,I.kIn a o hk,hc,⟨n,by simpa using hs⟩,hd⟩,?_⟩;have e:=r.length;simp only[Array.length_toList]at e;lia
theorem Inv.tuple(I:Inv X pins σ H s)(h:SqT X.K H a xs):∃its:List Value,Vals xs its/\IsTup s.heap a its.toArray/\xs.length<=sizeLine:=by
 obtain⟨its,r,p,z⟩:=I.tupleD h;exact⟨its,r,p.isTup,z⟩
theorem Inv.list_inj(I:Inv X pins σ H s)(h:SqL X.K H a xs)(h':SqL X.K H a ys):xs=ys:=by
 obtain⟨its,r,⟨o,n,e,_,_,d⟩,_⟩:=I.list h;obtain⟨its',r',⟨o',n',e',_,_,d'⟩,_⟩:=I.list h';rw[e]at e';cases e';rw[d]at d';injection d' with d1 _
 have:its=its':=by simpa using congrArg Array.toList d1
 subst this;exact r.inj r'
theorem Inv.tuple_inj(I:Inv X pins σ H s)(h:SqT X.K H a xs)(h':SqT X.K H a ys):xs=ys:=by
 obtain⟨its,r,⟨o,e,_,n,d⟩,_⟩:=I.tuple h;obtain⟨its',r',⟨o',e',_,n',d'⟩,_⟩:=I.tuple h';rw[e]at e';cases e';rw[d]at d';injection d' with d1 _
 have:its=its':=by simpa using congrArg Array.toList d1
 subst this;exact r.inj r'
end
abbrev Cx.wish(X:Cx)(E:Value->Shared->Prop):Cx:={ X with xe:=E }
abbrev Cx.nox(X:Cx):Cx:=X.wish λ_ _=>False
theorem Cx.Ok.wish{X:Cx}(ok:X.Ok)(E:Value->Shared->Prop):(X.wish E).Ok :=
 ⟨ok.mod,ok.kind,ok.glob,ok.blt,ok.above,ok.inj,ok.has,ok.cab,ok.hd,ok.frames,ok.stk,ok.exf,ok.bs,ok.bsz,ok.noex,ok.exfs,ok.funs,ok.frf⟩
theorem Cx.Ok.unwish{X:Cx}{E:Value->Shared->Prop}(ok:(X.wish E).Ok):X.Ok :=
 ⟨ok.mod,ok.kind,ok.glob,ok.blt,ok.above,ok.inj,ok.has,ok.cab,ok.hd,ok.frames,ok.stk,ok.exf,ok.bs,ok.bsz,ok.noex,ok.exfs,ok.funs,ok.frf⟩
section
variable {X:Cx}{pins:List (Addr×Obj)}{σ:St}{H:Hp}{s:Shared}{E:Value->Shared->Prop}
theorem Inv.wish(I:Inv X pins σ H s)(E:Value->Shared->Prop):Inv (X.wish E) pins σ H s:=⟨I.ok.wish E,I.os,I.bare,I.base,I.loc,I.cell,I.free,I.freeC,I.pin,I.hok,I.len⟩
theorem Inv.unwish(I:Inv (X.wish E) pins σ H s):Inv X pins σ H s:=⟨I.ok.unwish,I.os,I.bare,I.base,I.loc,I.cell,I.free,I.freeC,I.pin,I.hok,I.len⟩
theorem SP.unwish{D:zg3}{f:Flow}{s':Shared}(h:SP (X.wish E) pins D f s'):SP X pins D f s':=by
 cases f with
 |next=>obtain⟨σ',H',I,q⟩:=h;exact⟨σ',H',I.unwish,q⟩
 |brk=>obtain⟨σ',H',I,q⟩:=h;exact⟨σ',H',I.unwish,q⟩
 |cont=>obtain⟨σ',H',I,q⟩:=h;exact⟨σ',H',I.unwish,q⟩
 |ret u=>obtain⟨v,σ',H',I,r,q⟩:=h;exact⟨v,σ',H',I.unwish,r,q⟩
theorem PSs.nox{st:List Stmt}{t:TS}(h:PSs X.nox st t):PSs X st t:=λpins s σ H D I hw=>
 wpAny_mono (h pins s σ H D (I.wish _) hw) (λ_ _ q=>q.unwish) λ_ _ z=>False.elim z
end
section
variable {X:Cx}{st:Stmt}{rest:List Stmt}{t u:TS}{e:Expr}{te:TE}{pos:Pos}
def zt1:TS:=λD σ H=>D.nx σ H
def zvt(t u:TS):TS:=λD σ H=>t { D with nx:=u D } σ H
theorem zox:PSs X [] zt1:=λ_ _ σ H _ I h=>wpAny_execs_nil ⟨σ,H,I,h⟩
theorem jw(h1:PS X st t)(h2:PSs X rest u):PSs X (st::rest) (zvt t u):=by
 intro pins s σ H D I h;refine wpAny_execs_cons (thn (h1 pins s σ H { D with nx:=u D } I h) λf s1 q=>?_)
 cases f with
 |next=>
  obtain⟨σ',H',I',q⟩:=q;exact h2 pins s1 σ' H' D I' q
 |ret v=>exact q
 |brk=>exact q
 |cont=>exact q
theorem ziv(h1:PS X st t):PSs X [st] t:=by
 intro pins s σ H D I h;refine wpAny_execs_cons (thn (h1 pins s σ H D I h) λf s1 q=>?_)
 cases f with
 |next=>exact wpAny_execs_nil q
 |ret v=>exact q
 |brk=>exact q
 |cont=>exact q
theorem Inv.quiet{pins:List (Addr×Obj)}{σ:St}{H:Hp}{s:Shared}(I:Inv X pins σ H s):interactive X.env=false:=by simp[interactive,I.ok.kind]
def zt2(te:TE):TS:=λD σ H=>te σ H λ_ H1=>D.nx σ H1
theorem zd6(he:PE X e te)(hs:swapsWith e none pos.line X.env=pure false:=by rfl):PS X (.Expr e pos) (zt2 te):=by
 intro pins s σ H D I h;exact wpAny_Expr_any (thn (he pins s σ H _ I h) λv s1 ⟨x,H1,I1,r1,q1⟩=>⟨σ,H1,I1,q1⟩) I.quiet hs
def zvu(te:TE):TS:=λD σ H=>te σ H D.rt
theorem zal(he:PE X e te):PS X (.Return (some e) pos) (zvu te):=by
 intro pins s σ H D I h;exact wpAny_Return_some (thn (he pins s σ H _ I h) λv s1 ⟨x,H1,I1,r1,q1⟩=>⟨x,σ,H1,I1,r1,q1⟩)
def zvv(c:TT)(t u:TS):TS:=λD σ H=>c σ H λb H1=>if b=true then t D σ H1 else u D σ H1
theorem zt3{c:Expr}{a b:List Stmt}{tc:TT}(hc:PT X c tc)(ha:PSs X a t)(hb:PSs X b u):PS X (.If c a b pos) (zvv tc t u):=by
 intro pins s σ H D I h;refine wpAny_If (thn (hc pins s σ H _ I h) λd s1 ⟨H1,I1,q1⟩=>?_)
 cases d with
 |true=>exact ha pins s1 σ H1 D I1 q1
 |false=>exact hb pins s1 σ H1 D I1 q1
end
abbrev TG:=V->St->Hp->(St->Hp->Prop)->Prop
def PG(X:Cx)(target:Expr)(t:TG):Prop :=
 ∀(pins:List (Addr×Obj)) (s:Shared) (σ:St) (H:Hp) (v:V) (u:Value) (Q:St->Hp->Prop),Inv X pins σ H s->RelV v u->t v σ H Q ->
  wpAny (model X.prog X.w) X.A (assign target X.env u) (λ_ s'=>∃σ' H',Inv X pins σ' H' s'/\Q σ' H') X.xe s
abbrev zrh:=V->V->V->Hp->(Hp->Prop)->Prop
def zt4(X:Cx)(t:zrh):Prop :=
 ∀(pins:List (Addr×Obj)) (s:Shared) (σ:St) (H:Hp) (o i v:V) (ov iv u:Value) (Q:Hp->Prop),Inv X pins σ H s->RelV o ov->RelV i iv->RelV v u->t o i v H Q ->
  wpAny (model X.prog X.w) X.A (setItem ov iv u) (λ_ s'=>∃H',Inv X pins σ H' s'/\Q H') X.xe s
section
variable {X:Cx}{pos:Pos}
def zqo(i:Nat):TG:=λv σ H Q=>Q (σ.set i (some v)) H
def zvw(to ti:TE)(t:zrh):TG:=λv σ H Q=>to σ H λo H1=>ti σ H1 λi H2=>t o i v H2 λH3=>Q σ H3
theorem zg4{o i:Expr}{to ti:TE}{t:zrh}(ho:PE X o to)(hi:PE X i ti)(hs:zt4 X t)
  (ha:∀v,assign (.Subscript o i pos) X.env v=(do
   let ov <-holding [v] (eval o X.env)
   let iv <-holding [v,ov] (eval i X.env)
   standAt pos
   holding [v,ov,iv] (setItem ov iv v)
   release [v,ov,iv] []):=by intro _;rfl):PG X (.Subscript o i pos) (zvw to ti t):=by
 intro pins s σ H v u Q I r h;rw[ha];refine wpAny_bind (wpAny_holding (thn (ho pins s σ H _ I h) λov s1 ⟨x,H1,I1,r1,q1⟩=>?_));refine wpAny_bind (wpAny_holding (thn (hi pins s1 σ H1 _ I1 q1) λiv s2 ⟨y,H2,I2,r2,q2⟩=>?_));refine wpAny_bind (wpAny_standAt (wpAny_bind (wpAny_holding (thn (hs pins s2 σ H2 x y v ov iv u _ I2 r1 r2 r q2) λ_ s3 ⟨H3,I3,q3⟩=>?_))));exact wpAny_release ⟨σ,H3,I3,q3⟩
def zri(te:TE)(g:TG):TS:=λD σ H=>te σ H λx H1=>g x σ H1 D.nx
theorem zd7{tg e:Expr}{te:TE}{g:TG}(he:PE X e te)(hg:PG X tg g)(hs:swapsWithSole [tg] e pos.line X.env=pure false:=by rfl)(hw:swappedStores [tg] e X.env=pure none:=by rfl)
  (h1:(assignEach [tg] X.env).map (·.2) = [assign tg X.env]:=by rfl):PS X (.Assign [tg] e pos) (zri te g):=by
 intro pins s σ H D I h;refine wpAny_Assign_stores (thn (he pins s σ H _ I h) λv s1 ⟨x,H1,I1,r1,q1⟩=>?_) hs hw;rw[h1];exact thn (hg pins s1 σ H1 x v _ I1 r1 q1) λ_ s2 q=>q
theorem zam{i:Nat}{x:Str}{e:Expr}{te:TE}{pos':Pos}(hN:X.N.Nodup)(hi:X.N[i]?=some x)(hx:Loc X.env.scope x)(he:PE X e te)(hs:swapsWith e (some (.Name x pos')) pos.line X.env=pure false:=by rfl)(hf:X.fn x=true\/X.env.scope.names.lookup x=some .local:=by first|exact .inl rfl|exact .inr rfl|assumption):
  PS X (.Assign [.Name x pos'] e pos) (zri te (zqo i)):=by
 intro pins s σ H D I h;refine wpAny_Assign_Name (thn (he pins s σ H _ I h) λv s1 ⟨y,H1,I1,r1,q1⟩=>?_) hs;exact jv I1 hN hi hx r1 (λs2 I2=>⟨_,H1,I2,q1⟩) hf
def zvx(i j:Nat)(ta:TA):TS:=λD σ H=>ta σ H λvs H1=>∃v w,vs = [v,w]/\D.nx ((σ.set i (some v)).set j (some w)) H1
theorem zrj{i j:Nat}{x y:Str}{a b:Expr}{ta:TA}{px py pt:Pos}{kt k2 pt2}(hc:X.calm=true)(hN:X.N.Nodup)(hi:X.N[i]?=some x)(hj:X.N[j]?=some y)(hij:i≠j)
  (hx:X.env.scope.names.lookup x=some .local) (hy:X.env.scope.names.lookup y=some .local) (ha:PA X [a,b] ta)
  (hw:swappedStores [.Tuple [.Name x px,.Name y py] kt pt] (.Tuple [a,b] k2 pt2) X.env=pure (some [x,y]))
  (hs:swapsWithSole [.Tuple [.Name x px,.Name y py] kt pt] (.Tuple [a,b] k2 pt2) pos.line X.env=pure false:=by rfl) :
  PS X (.Assign [.Tuple [.Name x px,.Name y py] kt pt] (.Tuple [a,b] k2 pt2) pos) (zvx i j ta):=by
 intro pins s σ H D I h;rw[exec_Assign_arm];refine wpAny_bind (wpAny_standAt ?_);rw[hs];refine wpAny_bind (wpAny_pure ?_);rw[if_neg (by decide)];refine wpAny_bind (Tuple_ (thn (ha _ pins s σ H _ I h) λus s1 ⟨vs,H1,I1,r1,q1⟩=>?_));obtain⟨v,w,e1,q1⟩:=q1;subst e1;obtain⟨u1,u2,rfl,rv,rw'⟩:∃u1 u2,us = [u1,u2]/\RelV v u1/\RelV w u2:=by
  cases r1 with
  |cons p q=>
   cases q with
   |cons p' q'=>
    cases q';exact⟨_,_,rfl,p,p'⟩
 refine wpAny_newObj_type ?_ (by show 2<=sizeLine;decide);have I2:Inv X pins σ H1 { s1 with heap:=s1.heap.push { cls:=.type "tuple",data:=.seq [u1,u2].toArray } }:=I1.kept (t':=s1.toks) λb o e=>Heap.get?_push_of_some _ e;rw[hw];refine wpAny_bind (wpAny_pure ?_);show wpAny (model X.prog X.w) X.A (do rule "assign.swapped-stores";let items <-unpackItems (.ref s1.heap.objs.size) 2 none;assignInOrder [λv=>bindName X.env y v,λv=>bindName X.env x v] items.reverse;pure Flow.next) _ _ _;refine wpAny_bind (wpAny_rule (wpAny_bind (unpackItems_tuple (items:=#[u1,u2]) (I.ok.hd hc) (IsTup.new s1.heap _) λh' hx'=>?_)));have I3:=I2.kept (h':=h') (t':=s1.toks) λb o e=>hx' b o (Nat.ne_of_lt (Heap.lt_size e)) e;show wpAny _ _ (assignInOrder [λv=>bindName X.env y v,λv=>bindName X.env x v] [u2,u1] >>= λ_=>pure Flow.next) _ _ _;refine wpAny_bind (assignInOrder_cons (wpAny_bindName (jv I3 hN hj (.inl hy) rw' (λs2 I4=>?_) (.inr hy))));refine assignInOrder_cons (wpAny_bindName (jv I4 hN hi (.inl hx) rv (λs3 I5=>assignInOrder_nil (wpAny_pure ?_)) (.inr hx)));rw[List.set_comm _ _ (Ne.symm hij)]at I5;exact⟨_,H1,I5,q1⟩
end
section
variable {X:Cx}{pos:Pos}
def zrk(c:TT)(tb:TS):TS:=λD σ H=>∃W:Nat->St->Hp->Prop,(∃m,W m σ H)/\∀m σ H,W m σ H ->
 c σ H λb H1=>if b=true then ∃N:St->Hp->Prop,(∀σ' H',N σ' H'->∃m',m' < m/\W m' σ' H')/\tb { D with nx:=N,ct:=N,bk:=D.nx } σ H1 else D.nx σ H1
theorem zlm{c:Expr}{body:List Stmt}{tc:TT}{tb:TS}(hp:PassesOwn (model X.prog X.w) X.A X.env X.xe)(hc:PT X c tc)(hb:PSs X body tb):PS X (.While c body [] pos) (zrk tc tb):=by
 intro pins s σ H D I h;obtain⟨W,⟨m0,w0⟩,turn⟩:=h;refine wpAny_While (codeAny_whileLoop (λn s'=>∃σ' H',Inv X pins σ' H' s'/\W n σ' H') ?_ m0 ⟨σ,H,I,w0⟩);rintro n s1 ⟨σ1,H1,I1,w1⟩;refine wpAny_passesOwn hp (thn (hc pins s1 σ1 H1 _ I1 (turn n σ1 H1 w1)) λb s2 ⟨H2,I2,q2⟩=>?_)
 cases b with
 |true=>
  obtain⟨N,hN,q2⟩:=q2;rw[if_pos rfl];refine wpAny_passesOwn hp (thn (hb pins s2 σ1 H2 _ I2 q2) λf s3 q3=>?_)
  cases f with
  |next=>
   obtain⟨σ3,H3,I3,n3⟩:=q3;obtain⟨m',hm,w3⟩:=hN σ3 H3 n3;exact⟨m',hm,σ3,H3,I3,w3⟩
  |cont=>
   obtain⟨σ3,H3,I3,n3⟩:=q3;obtain⟨m',hm,w3⟩:=hN σ3 H3 n3;exact⟨m',hm,σ3,H3,I3,w3⟩
  |brk=>exact q3
  |ret v=>exact q3
 |false=>
  rw[if_neg Bool.false_ne_true];exact wpAny_execs_nil ⟨σ1,H2,I2,q2⟩
end
structure It where
 go:Nat->Hp->Prop
 yld:Nat->Hp->V->Hp->Prop
 stop:Nat->Hp->Prop
def zan(X:Cx)(pins:List (Addr×Obj))(H:Hp)(b:Addr):Prop :=
 H b=none/\b≠X.env.locals/\b∉X.fs/\(b∈X.ex\/X.s₀.heap.objs.size<=b)/\(∀x c,X.env.cells.lookup x=some c->c≠b)/\∀p∈X.pn++pins,p.1≠b
theorem Inv.fpOk{X:Cx}{pins:List (Addr×Obj)}{σ:St}{H H':Hp}{s:Shared}{b:Addr}(I:Inv X pins σ H s)(hb:s.heap.objs.size<=b)(hn:H' b=none):zan X pins H' b:=by
 refine⟨hn,Nat.ne_of_gt (Nat.lt_of_lt_of_le I.lt hb),I.nofs hb,.inr (Nat.le_trans I.sz hb),λx c e z=>?_,λp hp z=>?_⟩
 ·obtain⟨v,q⟩:=I.cell x c e;exact absurd (Nat.lt_of_lt_of_le q.lt (by rw[z];exact hb)) (Nat.lt_irrefl _)
 ·exact absurd (Nat.lt_of_lt_of_le (Heap.lt_size (I.pin p hp).1) (by rw[z];exact hb)) (Nat.lt_irrefl _)
structure zg5(P:Program)(w:World)(K:PySem.W.Frag)(tg:Expr)(J:It)(fp:List Addr)(it:Addr)(tn:Nat->Heap->Prop):Prop where
 mem:it∈fp
 obj:∀i h,tn i h->∀b∈fp,∃o,h.get? b=some o/\∀v,o.data ≠ .cell v
 keep:∀i h h',tn i h->(∀b∈fp,∀o,h.get? b=some o->h'.get? b=some o)->tn i h'
 item:∀(X:Cx),X.prog=P->X.w=w->X.K=K->X.calm=true->∀(i:Nat) (pins:List (Addr×Obj)) (s:Shared) (σ:St) (H:Hp) (E:Value->Shared->Prop),Inv X pins σ H s->(∀b∈fp,zan X pins H b)->tn i s.heap->J.go i H ->
  wpAny (model P w) X.A (pyNext (.ref it)) (λr s1=>∃u,r=some u /\
   wpAny (model P w) X.A (letOwnedTupleGo tg (.ref it) u) (λ_ s2=>∃x H',Inv X pins σ H' s2/\RelV x u/\J.yld i H x H'/\tn (i+1) s2.heap/\∀b∈fp,H' b=none) E s1) E s
 done:∀(X:Cx),X.prog=P->X.w=w->X.K=K->X.calm=true->∀(i:Nat) (pins:List (Addr×Obj)) (s:Shared) (σ:St) (H:Hp) (E:Value->Shared->Prop),Inv X pins σ H s->(∀b∈fp,zan X pins H b)->tn i s.heap->J.stop i H ->
  wpAny (model P w) X.A (pyNext (.ref it)) (λr s1=>r=none/\Inv X pins σ H s1) E s
 self:∀(A:Around) (i:Nat) (s:Shared) (Q:Value->Shared->Prop) (E:Value->Shared->Prop),tn i s.heap->Q (.ref it) s->wpAny (model P w) A (pyIter (.ref it)) Q E s
abbrev TI:=St->Hp->(It->Hp->Prop)->Prop
def PIE(X:Cx)(pins:List (Addr×Obj))(σ:St)(tg:Expr)(R:It->Hp->Prop)(itv:Value)(s2:Shared):Prop :=
 ∃(it:Addr) (fp:List Addr) (tn:Nat->Heap->Prop) (J:It) (H':Hp),itv=.ref it/\Inv X pins σ H' s2/\zg5 X.prog X.w X.K tg J fp it tn/\tn 0 s2.heap/\(∀b∈fp,zan X pins H' b)/\R J H'
def PI(X:Cx)(tg iter:Expr)(wi:TI):Prop :=
 ∀(pins:List (Addr×Obj)) (s:Shared) (σ:St) (H:Hp) (R:It->Hp->Prop),Inv X pins σ H s->wi σ H R ->
  wpAny (model X.prog X.w) X.A (eval iter X.env) (λv s1=>wpAny (model X.prog X.w) X.A (pyIter v) (PIE X pins σ tg R) X.xe s1) X.xe s
theorem zln{M:Model}{A:Around}{E:Value->Shared->Prop}{s:Shared}{tg:Expr}{it:Addr}{u:Value}{o:Obj}{n:String}{vs:Array Value}{Q:Unit->Shared->Prop}(ho:s.heap.get? it=some o)(hc:o.cls=.type n)(hd:o.data=.fields vs)
  (hn : ["enumerate", "zip", "dict_itemiterator", "dict_reverseitemiterator", "odict_iterator", "itertools.zip_longest", "itertools.pairwise"].contains n=false) (hQ:Q () s):wpAny M A (letOwnedTupleGo tg (.ref it) u) Q E s:=by
 unfold letOwnedTupleGo
 cases tg <;> first
  |exact wpAny_pure hQ
  |(cases u <;> first
    |exact wpAny_pure hQ
    |(refine wpAny_bind (wpAny_load ho ?_);rw[hc,hd];show wpAny M A (if (["enumerate", "zip", "dict_itemiterator", "dict_reverseitemiterator", "odict_iterator", "itertools.zip_longest", "itertools.pairwise"].contains n && vs[0]? == some (rawInt _))=true then _ else _) Q E s;rw[if_neg (by intro h;rw[hn,Bool.false_and]at h;cases h)];exact wpAny_pure hQ))
def Itl(K:PySem.W.Frag)(a:Addr):It :=
 ⟨λi H=>∃xs x,SqL K H a xs/\xs[i]?=some x,λi H x H'=>H'=H/\∀xs,SqL K H a xs->xs[i]?=some x,λi H=>∃xs,SqL K H a xs/\xs.length<=i⟩
def Itt(K:PySem.W.Frag)(a:Addr):It :=
 ⟨λi H=>∃xs x,SqT K H a xs/\xs[i]?=some x,λi H x H'=>H'=H/\∀xs,SqT K H a xs->xs[i]?=some x,λi H=>∃xs,SqT K H a xs/\xs.length<=i⟩
def Itr(lo:Int)(n:Nat):It:=⟨λi _=>i<n,λi H x H'=>H'=H/\x=.int (lo+i),λi _=>n<=i⟩
theorem zkc{P:Program}{w:World}{K:PySem.W.Frag}{tg:Expr}(a it:Addr):zg5 P w K tg (Itl K a) [it] it (λi h=>h.IsListIter it a i) where
 mem:=by simp
 obj:=λi h st b hb=>by
  have e:b=it:=by simpa using hb
  subst e;obtain⟨o,e,c,d⟩:=st;exact⟨o,e,λv z=>by rw[d]at z;cases z⟩
 keep:=λi h h' st k=>st.at λo e=>k it (by simp) o e
 item:=by
  intro X hP hw hK hc i pins s σ H E I hf st hg;subst hP hw hK;obtain⟨xs,x,hq,hx⟩:=hg;obtain⟨its,rv,p,hz⟩:=I.list hq;obtain⟨u,hu,ru⟩:=rv.get hx;obtain⟨f0,f1,f2,f3,f4,f5⟩:=hf it (by simp);refine wpAny_pyNext_list_item st p.isList (x:=u) (by simpa using hu) λh' st' sb=>?_;have I1:Inv X pins σ H { s with heap:=h' }:=I.turned (t':=s.toks) (λb o hb e=>(sb.2 b hb).trans e) f0 f1 f3 f4 f5;obtain⟨o,e,c,d⟩:=id st';exact⟨u,rfl,zln (s:={ s with heap:=h' }) e c d (by decide) ⟨x,H,I1,ru,⟨rfl,λys hy=>by rw[I.list_inj hy hq];exact hx⟩,st',λb hb=>(hf b hb).1⟩⟩
 done:=by
  intro X hP hw hK hc i pins s σ H E I hf st hg;subst hP hw hK;obtain⟨xs,hq,hx⟩:=hg;obtain⟨its,rv,p,hz⟩:=I.list hq;obtain⟨f0,f1,f2,f3,f4,f5⟩:=hf it (by simp);have hl:=rv.length;exact wpAny_pyNext_list_end (I.ok.hd hc) st p.isList (by simp;lia) λh' eb=>⟨rfl,I.turned (t':=s.toks) (λb o hb e=>eb b o hb e) f0 f1 f3 f4 f5⟩
 self:=λ_ _ _ _ _ st h=>wpAny_pyIter_listiter st h
theorem zg6{P:Program}{w:World}{K:PySem.W.Frag}{tg:Expr}(a it:Addr):zg5 P w K tg (Itt K a) [it] it (λi h=>h.IsTupleIter it a i) where
 mem:=by simp
 obj:=λi h st b hb=>by
  have e:b=it:=by simpa using hb
  subst e;obtain⟨o,e,c,d⟩:=st;exact⟨o,e,λv z=>by rw[d]at z;cases z⟩
 keep:=λi h h' st k=>st.at λo e=>k it (by simp) o e
 item:=by
  intro X hP hw hK hc i pins s σ H E I hf st hg;subst hP hw hK;obtain⟨xs,x,hq,hx⟩:=hg;obtain⟨its,rv,p,hz⟩:=I.tuple hq;obtain⟨u,hu,ru⟩:=rv.get hx;obtain⟨f0,f1,f2,f3,f4,f5⟩:=hf it (by simp);refine wpAny_pyNext_tuple_item st (show s.heap.IsTuple a its.toArray from p) (x:=u) (by simpa using hu) λh' st' sb=>?_;have I1:Inv X pins σ H { s with heap:=h' }:=I.turned (t':=s.toks) (λb o hb e=>(sb.2 b hb).trans e) f0 f1 f3 f4 f5;obtain⟨o,e,c,d⟩:=id st';exact⟨u,rfl,zln (s:={ s with heap:=h' }) e c d (by decide) ⟨x,H,I1,ru,⟨rfl,λys hy=>by rw[I.tuple_inj hy hq];exact hx⟩,st',λb hb=>(hf b hb).1⟩⟩
 done:=by
  intro X hP hw hK hc i pins s σ H E I hf st hg;subst hP hw hK;obtain⟨xs,hq,hx⟩:=hg;obtain⟨its,rv,p,hz⟩:=I.tuple hq;obtain⟨f0,f1,f2,f3,f4,f5⟩:=hf it (by simp);have hl:=rv.length;exact wpAny_pyNext_tuple_end (I.ok.hd hc) st (show s.heap.IsTuple a its.toArray from p) (by simp;lia) λh' eb=>⟨rfl,I.turned (t':=s.toks) (λb o hb e=>eb b o hb e) f0 f1 f3 f4 f5⟩
 self:=λ_ _ _ _ _ st h=>wpAny_pyIter_tupleiter st h
theorem zg7{P:Program}{w:World}{K:PySem.W.Frag}{tg:Expr}(it:Addr)(lo:Int)(n:Nat):zg5 P w K tg (Itr lo n) [it] it (λi h=>IsRangeIter h it (lo+(i:Nat) * 1) ((n:Int)-(i:Nat)) 1) where
 mem:=by simp
 obj:=λi h st b hb=>by
  have e:b=it:=by simpa using hb
  subst e;exact⟨_,st,λv z=>by
   have z':Data.fields _=Data.cell v:=z
   cases z'⟩
 keep:=λi h h' st k=>k it (by simp) _ st
 item:=by
  intro X hP hw hK hc i pins s σ H E I hf st hg;subst hP hw hK;obtain⟨f0,f1,f2,f3,f4,f5⟩:=hf it (by simp);have W:=Walks.range (prog:=X.prog) (w:=X.w) (I.ok.hd hc) it lo 1 n;refine W.item i s _ _ hg st λv h' tk hv st' kk=>?_;obtain⟨t,rfl⟩:=hv;have I1:Inv X pins σ H { s with heap:=h',toks:=tk }:=I.turned (λb o hb e=>kk b o (by simpa using hb) e) f0 f1 f3 f4 f5;refine⟨_,rfl,zln (s:={ s with heap:=h',toks:=tk }) (n := "range_iterator") st' rfl rfl (by decide) ⟨.int (lo+i),H,I1,⟨t,?_⟩,⟨rfl,rfl⟩,st',λb hb=>(hf b hb).1⟩⟩;rw[Int.mul_one]
 done:=by
  intro X hP hw hK hc i pins s σ H E I hf st hg;subst hP hw hK;obtain⟨f0,f1,f2,f3,f4,f5⟩:=hf it (by simp);exact wpAny_pyNext_range_end (I.ok.hd hc) st (by have:n<=i:=hg;lia) λh' eb=>⟨rfl,I.turned (t':=s.toks) (λb o hb e=>eb b o hb e) f0 f1 f3 f4 f5⟩
 self:=λ_ _ _ _ _ st h=>wpAny_pyIter_rangeiter st h
section
variable {X:Cx}{tg:Expr}
theorem zfe{pins:List (Addr×Obj)}{σ:St}{H:Hp}{s:Shared}{R:It->Hp->Prop}{E:Value->Shared->Prop}{lo hi:Int}{t u v:Tok}{tk:Nat}(I:Inv X pins σ H s)(h1 : -(2 ^ 62)<=lo)(h2:lo<2 ^ 62)(h3 : -(2 ^ 62)<=hi)(h4:hi<2 ^ 62)
  (q:R (Itr lo (hi-lo).toNat) H):wpAny (model X.prog X.w) X.A (pyIter (.ref s.heap.objs.size)) (PIE X pins σ tg R) E { s with heap:=s.heap.push { cls:=.type "range",data:=.fields #[.int lo t,.int hi u,.int 1 v] },toks:=tk }:=by
 refine wpAny_pyIter_range (IsRange.new ..) (small_one h1 h2 h3 h4) ?_;have I1:Inv X pins σ H { s with heap:=s.heap.push { cls:=.type "range",data:=.fields #[.int lo t,.int hi u,.int 1 v] },toks:=tk }:=I.kept λb o e=>Heap.get?_push_of_some _ e;refine⟨(s.heap.push { cls:=.type "range",data:=.fields #[.int lo t,.int hi u,.int 1 v] }).objs.size,[(s.heap.push { cls:=.type "range",data:=.fields #[.int lo t,.int hi u,.int 1 v] }).objs.size],_,_,H,rfl,
  I1.kept (t':=tk) λb o e=>Heap.get?_push_of_some _ e,zg7 _ lo (hi-lo).toNat,?_,λb hb=>?_,q⟩
 ·have e1:lo+((0:Nat):Int) * 1=lo:=by simp
  have e2:(((hi-lo).toNat:Nat):Int)-((0:Nat):Int)=Builtin.Range.rangeSize lo hi 1:=by rw[rangeSize_one];split <;> lia
  show IsRangeIter _ _ (lo+((0:Nat):Int) * 1) ((((hi-lo).toNat:Nat):Int)-((0:Nat):Int)) 1;rw[e1,e2];exact Heap.get?_push_size _ rfl
 ·have e:b=(s.heap.push { cls:=.type "range",data:=.fields #[.int lo t,.int hi u,.int 1 v] }).objs.size:=by simpa using hb
  subst e;exact I1.fpOk (Nat.le_refl _) (I1.hok.fresh (Nat.le_refl _))
def zt5(ta:TA):TI:=λσ H R=>ta σ H λvs H1=>∃j:Int,vs = [.int j]/\-(2 ^ 62)<=j/\j<2 ^ 62/\R (Itr 0 j.toNat) H1
def zt6(ta:TA):TI:=λσ H R=>ta σ H λvs H1=>∃i j:Int,vs = [.int i,.int j]/\(-(2 ^ 62)<=i/\i<2 ^ 62/\-(2 ^ 62)<=j/\j<2 ^ 62)/\R (Itr i (j-i).toNat) H1
theorem zkd{a:Expr}{ta:TA}{p pos:Pos}(hg:Gl X "range")(hm:X.mg "range" = none)(ha:PA X [a] ta)(hs:starEach [a] X.env = [(false,eval a X.env)]:=by rfl):PI X tg (.Call (.Name "range" p) [a] [] pos) (zt5 ta):=by
 intro pins s σ H R I h;refine Call_ (jb I hg hm boot_range (PyProof.Rows.callWith_type1 (thn (ha pos pins s σ H _ I h) λus s1 ⟨vs,H1,I1,r1,q1⟩=>?_) hs rfl));obtain⟨j,e,q1,q2,q⟩:=q1;subst e
 cases r1 with
 |cons r rr=>
  cases rr;obtain⟨t,rfl⟩:=r;exact call_range_1 (zfe I1 (by lia) (by lia) q1 q2 (by simpa using q))
theorem zke{a b:Expr}{ta:TA}{p pos:Pos}(hg:Gl X "range")(hm:X.mg "range" = none)(ha:PA X [a,b] ta)(hs:starEach [a,b] X.env = [(false,eval a X.env),(false,eval b X.env)]:=by rfl)(hs2:starEach [b] X.env = [(false,eval b X.env)]:=by rfl):
  PI X tg (.Call (.Name "range" p) [a,b] [] pos) (zt6 ta):=by
 intro pins s σ H R I h;refine Call_ (jb I hg hm boot_range (PyProof.Rows.callWith_type1 (thn (ha pos pins s σ H _ I h) λus s1 ⟨vs,H1,I1,r1,q1⟩=>?_) (by rw[hs,hs2]) (by rw[hs2];rfl)));obtain⟨i,j,e,⟨q1,q2,q3,q4⟩,q⟩:=q1;subst e
 cases r1 with
 |cons r rr=>
  cases rr with
  |cons r' rr=>
   cases rr;obtain⟨t,rfl⟩:=r;obtain⟨t',rfl⟩:=r';exact call_range_2 (zfe I1 q1 q2 q3 q4 q)
def zvy(wi:TI)(g:TG)(tb:TS):TS:=λD σ H=>wi σ H λJ H1=>∃W:Nat->Nat->St->Hp->Prop,(∃m,W 0 m σ H1)/\∀i m σ H,W i m σ H ->
 (J.stop i H/\D.nx σ H)\/(J.go i H/\∃N:St->Hp->Prop,(∀σ' H',N σ' H'->∃m',m' < m/\W (i+1) m' σ' H')/\∀x H',J.yld i H x H'->g x σ H' λσ2 H2=>tb { D with nx:=N,ct:=N,bk:=D.nx } σ2 H2)
def jc(fp:List Addr)(h:Heap):List (Addr×Obj):=fp.filterMap λb=>(h.get? b).map λo=>(b,o)
theorem y6{fp:List Addr}{h:Heap}{b:Addr}{o:Obj}(hb:b∈fp)(e:h.get? b=some o):(b,o)∈jc fp h:=List.mem_filterMap.mpr ⟨b,hb,by rw[e];rfl⟩
theorem zkf{fp:List Addr}{h:Heap}{p:Addr×Obj}(hp:p∈jc fp h):p.1∈fp/\h.get? p.1=some p.2:=by
 obtain⟨b,hb,e⟩:=List.mem_filterMap.mp hp
 cases q:h.get? b with
 |none=>rw[q]at e;cases e
 |some o=>
  rw[q]at e;have e':(b,o)=p:=Option.some.inj e;subst e';exact⟨hb,q⟩
theorem Inv.pinned{pins:List (Addr×Obj)}{σ:St}{H:Hp}{s:Shared}{fp:List Addr}(I:Inv X pins σ H s)(hf:∀b∈fp,zan X pins H b)(ho:∀b∈fp,∃o,s.heap.get? b=some o/\∀v,o.data ≠ .cell v):Inv X (pins++jc fp s.heap) σ H s :=
 I.pins_of λp hp=>(List.mem_append.mp hp).elim (λz=>I.pin p (List.mem_append_right _ z)) λz=>by
  obtain⟨hb,e⟩:=zkf z;obtain⟨f0,f1,f2,_⟩:=hf p.1 hb;obtain⟨o,e',d⟩:=ho p.1 hb;rw[e]at e';cases e';exact⟨e,f0,f1,f2,d⟩
theorem Inv.unpinned{pins pl:List (Addr×Obj)}{σ:St}{H:Hp}{s:Shared}(I:Inv X (pins++pl) σ H s):Inv X pins σ H s:=I.pins_of λp hp=>I.pin p (List.mem_append_right _ (List.mem_append_left _ hp))
theorem zrl{iter:Expr}{body:List Stmt}{wi:TI}{g:TG}{tb:TS}{pos:Pos}(hp:PassesOwn (model X.prog X.w) X.A X.env X.xe)(hc:X.calm=true)(hi:PI X tg iter wi)(hg:PG X tg g)(hb:PSs X body tb)
  (hs:∀x,foldedSetIterable iter X.env x=pure x:=by intro _;rfl):PS X (.For tg iter body [] pos) (zvy wi g tb):=by
 intro pins s σ H D I h;refine wpAny_For (thn (hi pins s σ H _ I h) λv s1 h1=>thn h1 λitv s2 h2=>?_) hs;obtain⟨it,fp,tn,J,H2,e,I2,T,st2,f2,W,⟨m0,w0⟩,turn⟩:=h2;subst e
 -- what stays true of the iterator's objects through the loop
 have stat:∀{H':Hp},(∀b∈fp,H' b=none)->∀b∈fp,zan X pins H' b:=λhn b hb=>⟨hn b hb,(f2 b hb).2⟩
 refine codeAny_forLoop_any (λn s'=>∃i σ' H',Inv X pins σ' H' s'/\tn i s'.heap/\(∀b∈fp,H' b=none)/\W i n σ' H') ?_ m0 ⟨0,σ,H2,I2,st2,λb hb=>(f2 b hb).1,w0⟩;rintro n s3 ⟨i,σ3,H3,I3,st3,fr3,w3⟩;rcases turn i n σ3 H3 w3 with⟨stop,qn⟩ |⟨go,N,hN,step⟩
 ·refine wpAny_passesOwn hp (thn (T.done X rfl rfl rfl hc i pins s3 σ3 H3 X.xe I3 (stat fr3) st3 stop) λr s4 ⟨hr,I4⟩=>?_);subst hr;exact wpAny_execs_nil ⟨σ3,H3,I4,qn⟩
 ·refine wpAny_passesOwn hp (thn (T.item X rfl rfl rfl hc i pins s3 σ3 H3 X.xe I3 (stat fr3) st3 go) λr s4 ⟨u,hr,h4⟩=>?_);subst hr;refine wpAny_passesOwn hp (thn h4 λ_ s5 ⟨x,H5,I5,r5,y5,st5,fr5⟩=>?_);have I5':=I5.pinned (stat fr5) (T.obj _ _ st5);refine wpAny_passesOwn hp (thn (hg _ s5 σ3 H5 x u _ I5' r5 (step x H5 y5)) λ_ s6 ⟨σ6,H6,I6,q6⟩=>?_);refine wpAny_passesOwn hp (thn (hb _ s6 σ6 H6 _ I6 q6) λf s7 q7=>?_)
  have again:∀{σ7:St}{H7:Hp},Inv X (pins++jc fp s5.heap) σ7 H7 s7->N σ7 H7->∃m,m<n/\∃i σ' H',Inv X pins σ' H' s7/\tn i s7.heap/\(∀b∈fp,H' b=none)/\W i m σ' H':=λ{σ7 H7} I7 n7=>by
   obtain⟨m',hm,w7⟩:=hN σ7 H7 n7;refine⟨m',hm,i+1,σ7,H7,I7.unpinned,T.keep _ _ _ st5 λb hb o e=>(I7.pin (b,o) (List.mem_append_right _ (List.mem_append_right _ (y6 hb e)))).1,λb hb=>?_,w7⟩;obtain⟨o,e,d⟩:=T.obj _ _ st5 b hb;exact(I7.pin (b,o) (List.mem_append_right _ (List.mem_append_right _ (y6 hb e)))).2.1
  cases f with
  |next=>obtain⟨σ7,H7,I7,n7⟩:=q7;exact again I7 n7
  |cont=>obtain⟨σ7,H7,I7,n7⟩:=q7;exact again I7 n7
  |brk=>obtain⟨σ7,H7,I7,q7⟩:=q7;exact⟨σ7,H7,I7.unpinned,q7⟩
  |ret v=>obtain⟨x7,σ7,H7,I7,r7,q7⟩:=q7;exact⟨x7,σ7,H7,I7.unpinned,r7,q7⟩
end
abbrev R2:=V->V->Hp->VK->Prop
def OpR(X:Cx)(f:Value->Value->Sem Value)(r:R2):Prop :=
 ∀(pins:List (Addr×Obj)) (s:Shared) (σ:St) (H:Hp) (x y:V) (v u:Value) (Q:VK),Inv X pins σ H s->RelV x v->RelV y u->r x y H Q ->
  wpAny (model X.prog X.w) X.A (f v u) (EP X pins σ Q) X.xe s
def UnR(X:Cx)(f:Value->Sem Value)(r:V->Hp->VK->Prop):Prop :=
 ∀(pins:List (Addr×Obj)) (s:Shared) (σ:St) (H:Hp) (x:V) (v:Value) (Q:VK),Inv X pins σ H s->RelV x v->r x H Q ->
  wpAny (model X.prog X.w) X.A (f v) (EP X pins σ Q) X.xe s
def wj(X:Cx)(f:Value)(r:List V->Hp->VK->Prop):Prop :=
 ∀(pins:List (Addr×Obj)) (s:Shared) (σ:St) (H:Hp) (xs:List V) (us:List Value) (Q:VK),Inv X pins σ H s->Vals xs us->r xs H Q ->
  wpAny (model X.prog X.w) X.A (call f us) (EP X pins σ Q) X.xe s
def zvz(X:Cx)(r:V->Hp->(Bool->Hp->Prop)->Prop):Prop :=
 ∀(pins:List (Addr×Obj)) (s:Shared) (σ:St) (H:Hp) (x:V) (v:Value) (Q:Bool->Hp->Prop),Inv X pins σ H s->RelV x v->r x H Q ->
  wpAny (model X.prog X.w) X.A (truthy v) (TP X pins σ Q) X.xe s
def tOp(r:R2)(ta tb:TE):TE:=λσ H Q=>ta σ H λx H1=>tb σ H1 λy H2=>r x y H2 Q
def tUn(r:V->Hp->VK->Prop)(ta:TE):TE:=λσ H Q=>ta σ H λx H1=>r x H1 Q
def rI(C:Int->Int->Prop)(g:Int->Int->V):R2:=λx y H Q=>∃i j,x=.int i/\y=.int j/\C i j/\Q (g i j) H
def rI0(g:Int->Int->V):R2:=λx y H Q=>∃i j,x=.int i/\y=.int j/\Q (g i j) H
def rU(g:Int->V):V->Hp->VK->Prop:=λx H Q=>∃i,x=.int i/\Q (g i) H
section
variable {X:Cx}{a b c:Expr}{ta tb tc:TE}{pos:Pos}
theorem zt7(ha:PE X a ta)(hb:PE X b tb){pins:List (Addr×Obj)}{s:Shared}{σ:St}{H:Hp}{R:V->V->Hp->Prop}(I:Inv X pins σ H s)
  (h:ta σ H λx H1=>tb σ H1 λy H2=>R x y H2) {Q:Value->Shared->Prop}{f:Value->Value->Sem Value}
  (hf:∀v u s2 x y H2,Inv X pins σ H2 s2->RelV x v->RelV y u->R x y H2->wpAny (model X.prog X.w) X.A (f v u) Q X.xe s2) :
  wpAny (model X.prog X.w) X.A (eval a X.env) (λv s₁=>wpAny (model X.prog X.w) X.A (eval b X.env) (λu s₂=>wpAny (model X.prog X.w) X.A (f v u) Q X.xe s₂) X.xe s₁) X.xe s:=by
 refine thn (ha pins s σ H _ I h) λv s1 zy71=>?_;obtain⟨x,H1,I1,r1,q1⟩:=zy71;refine thn (hb pins s1 σ H1 _ I1 q1) λu s2 zy72=>?_;obtain⟨y,H2,I2,r2,q2⟩:=zy72;exact hf v u s2 x y H2 I2 r1 r2 q2
theorem zff{op:Operator}{r:R2}(ho:OpR X (binaryOp op) r)(ha:PE X a ta)(hb:PE X b tb):PE X (.BinOp a op b pos) (tOp r ta tb):=by
 intro pins s σ H Q I h;exact wpAny_BinOp (zt7 ha hb I h λv u s2 x y H2 I2 rx ry q=>ho pins s2 σ H2 x y v u Q I2 rx ry q)
theorem zt8{op:UnaryOp}{r:V->Hp->VK->Prop}(ho:UnR X (unaryOp op) r)(ha:PE X a ta):PE X (.UnaryOp op a pos) (tUn r ta):=by
 intro pins s σ H Q I h;exact UnaryOp_ (thn (ha pins s σ H _ I h) λv s1 ⟨x,H1,I1,r1,q1⟩=>ho pins s1 σ H1 x v Q I1 r1 q1)
theorem opI{f:Value->Value->Sem Value}{C:Int->Int->Prop}{g:Int->Int->Int}
  (rule:∀(i j:Int) (t u:Tok) (s:Shared) (Q:Value->Shared->Prop) (E:Value->Shared->Prop),C i j->Q (.int (g i j) s.toks) { s with toks:=s.toks+1 }->wpAny (model X.prog X.w) X.A (f (.int i t) (.int j u)) Q E s) :
  OpR X f (rI C λi j=>.int (g i j)):=by
 intro pins s σ H x y v u Q I rx ry h;obtain⟨i,j,rfl,rfl,hc,q⟩:=h;obtain⟨t,rfl⟩:=rx;obtain⟨t',rfl⟩:=ry;exact rule i j t t' s _ _ hc ⟨.int (g i j),H,I.tok _,⟨_,rfl⟩,q⟩
theorem zt9{f:Value->Value->Sem Value}{g:Int->Int->Int}
  (rule:∀(i j:Int) (t u:Tok) (s:Shared) (Q:Value->Shared->Prop) (E:Value->Shared->Prop),Q (.int (g i j) s.toks) { s with toks:=s.toks+1 }->wpAny (model X.prog X.w) X.A (f (.int i t) (.int j u)) Q E s) :
  OpR X f (rI0 λi j=>.int (g i j)):=by
 intro pins s σ H x y v u Q I rx ry h;obtain⟨i,j,rfl,rfl,q⟩:=h;obtain⟨t,rfl⟩:=rx;obtain⟨t',rfl⟩:=ry;exact rule i j t t' s _ _ ⟨.int (g i j),H,I.tok _,⟨_,rfl⟩,q⟩
theorem zoy{f:Value->Value->Sem Value}{g:Int->Int->Bool}
  (rule:∀(i j:Int) (t u:Tok) (s:Shared) (Q:Value->Shared->Prop) (E:Value->Shared->Prop),Q (.bool (g i j)) s->wpAny (model X.prog X.w) X.A (f (.int i t) (.int j u)) Q E s) :
  OpR X f (rI0 λi j=>.bl (g i j)):=by
 intro pins s σ H x y v u Q I rx ry h;obtain⟨i,j,rfl,rfl,q⟩:=h;obtain⟨t,rfl⟩:=rx;obtain⟨t',rfl⟩:=ry;exact rule i j t t' s _ _ ⟨.bl (g i j),H,I,rfl,q⟩
def zua(i j:Int):Prop:=0<=j/\j<=1000000/\i.natAbs<2 ^ 64
def CMul(i j:Int):Prop:=(-(2 ^ 64)<i/\i<2 ^ 64)\/(-(2 ^ 64)<j/\j<2 ^ 64)
theorem CMul.ok{i j:Int}(h:CMul i j):IntMulOk i j:=by
 rcases h with⟨h1,h2⟩ |⟨h1,h2⟩
 ·exact .of_left (intBits_le_64 h1 h2)
 ·exact .of_right (intBits_le_64 h1 h2)
theorem zlo:OpR X (binaryOp .Add) (rI0 λi j=>.int (i+j)):=zt9 λ_ _ _ _ _ _ _ q=>add_int q
theorem zrm:OpR X (binaryOp .Sub) (rI0 λi j=>.int (i-j)):=zt9 λ_ _ _ _ _ _ _ q=>sub_int q
theorem zrn:OpR X (binaryOp .Mult) (rI CMul λi j=>.int (i * j)):=opI λ_ _ _ _ _ _ _ hc q=>mul_int q hc.ok
theorem zg8:OpR X (binaryOp .Mod) (rI (λ_ j=>0<j) λi j=>.int (i % j)):=opI λi j _ _ _ _ _ hc q=>by
 have h1:(0:Int)<j:=hc;exact mod_int' (by lia) (by rw[Int.fmod_eq_emod_of_nonneg i (by lia)];exact q)
theorem zro:OpR X (binaryOp .Pow) (rI zua λi j=>.int (i ^ j.toNat)):=opI λ_ _ _ _ _ _ _ hc q=>pow_int_small hc.1 hc.2.1 hc.2.2 q
theorem unI{f:Value->Sem Value}{g:Int->Int}
  (rule:∀(i:Int) (t:Tok) (s:Shared) (Q:Value->Shared->Prop) (E:Value->Shared->Prop),Q (.int (g i) s.toks) { s with toks:=s.toks+1 }->wpAny (model X.prog X.w) X.A (f (.int i t)) Q E s) :
  UnR X f (rU λi=>.int (g i)):=by
 intro pins s σ H x v Q I rx h;obtain⟨i,rfl,q⟩:=h;obtain⟨t,rfl⟩:=rx;exact rule i t s _ _ ⟨.int (g i),H,I.tok _,⟨_,rfl⟩,q⟩
theorem zrp:UnR X (unaryOp .USub) (rU λi=>.int (-i)):=unI λ_ _ _ _ _ q=>neg_int q
end
def zrq:V->V->Bool
 |.non,.non=>true|.non,.int _=>true|.int _,.non=>true|.non,.bl _=>true|.bl _,.non=>true|.non,.str _=>true|.str _,.non=>true
 |.int _,.int _=>true|.bl _,.bl _=>true|.str _,.str _=>true|.byt _,.byt _=>true
 |.int _,.str _=>true|.str _,.int _=>true|.bl _,.str _=>true|.str _,.bl _=>true
 |_,_=>false
def rEq:R2:=λx y H Q=>zrq x y=true/\Q (.bl (decide (x=y))) H
def rNe:R2:=λx y H Q=>zrq x y=true/\Q (.bl (!decide (x=y))) H
theorem ziw{i j:Int}:decide (V.int i=V.int j)=(i == j):=by
 rw[Bool.eq_iff_iff];simp
theorem zlp{i j:Bool}:decide (V.bl i=V.bl j)=(i == j):=by
 rw[Bool.eq_iff_iff];simp
theorem zix{i j:Str}:decide (V.str i=V.str j)=(i == j):=by
 rw[Bool.eq_iff_iff];simp
theorem ziy{i j:Array UInt8}:decide (V.byt i=V.byt j)=(i.toList == j.toList):=by
 rw[Bool.eq_iff_iff]
 cases i
 cases j;simp
section
variable {X:Cx}{a b c:Expr}{ta tb tc:TE}{pos:Pos}
theorem yj{pins:List (Addr×Obj)}{σ:St}{H:Hp}{s:Shared}{Q:VK}{k k':Bool}(I:Inv X pins σ H s)(q:Q (.bl k) H)(e:k=k'):EP X pins σ Q (.bool k') s:=by
 subst e;exact⟨.bl k,H,I,rfl,q⟩
theorem zqp:OpR X (compareOp .Eq) rEq:=by
 intro pins s σ H x y v u Q I rx ry h;obtain⟨hs,q⟩:=h
 cases x with
 |non=>
  cases rx
  cases y with
  |non=>cases ry;exact PySem.EqNone.eq_none_none (yj I q (by simp))
  |bl j=>cases ry;exact PySem.EqNone.eq_none_bool (yj I q (by simp))
  |int j=>obtain⟨t',rfl⟩:=ry;exact PySem.EqNone.eq_none_int (yj I q (by simp))
  |str j=>obtain⟨t',rfl⟩:=ry;exact PySem.EqNone.eq_none_str (yj I q (by simp))
  |_=>exact absurd (show false=true from hs) Bool.false_ne_true
 |bl i=>
  cases rx
  cases y with
  |non=>cases ry;exact PySem.EqNone.eq_bool_none (yj I q (by simp))
  |bl j=>cases ry;exact eq_bool (yj I q zlp)
  |str j=>obtain⟨t',rfl⟩:=ry;exact PySem.EqMixed.eq_bool_str (yj I q (by simp))
  |_=>exact absurd (show false=true from hs) Bool.false_ne_true
 |int i=>
  obtain⟨t,rfl⟩:=rx
  cases y with
  |non=>cases ry;exact PySem.EqNone.eq_int_none (yj I q (by simp))
  |int j=>obtain⟨t',rfl⟩:=ry;exact eq_int (yj I q ziw)
  |str j=>obtain⟨t',rfl⟩:=ry;exact PySem.EqMixed.eq_int_str (yj I q (by simp))
  |_=>exact absurd (show false=true from hs) Bool.false_ne_true
 |str i=>
  obtain⟨t,rfl⟩:=rx
  cases y with
  |non=>cases ry;exact PySem.EqNone.eq_str_none (yj I q (by simp))
  |bl j=>cases ry;exact PySem.EqMixed.eq_str_bool (yj I q (by simp))
  |int j=>obtain⟨t',rfl⟩:=ry;exact PySem.EqMixed.eq_str_int (yj I q (by simp))
  |str j=>obtain⟨t',rfl⟩:=ry;exact eq_str (yj I q zix)
  |_=>exact absurd (show false=true from hs) Bool.false_ne_true
 |byt i=>
  obtain⟨t,rfl⟩:=rx
  cases y with
  |byt j=>obtain⟨t',rfl⟩:=ry;exact PySem.W.eq_bytes (yj I q ziy)
  |_=>exact absurd (show false=true from hs) Bool.false_ne_true
 |_=>cases y <;> exact absurd (show false=true from hs) Bool.false_ne_true
theorem zub:OpR X (compareOp .NotEq) rNe:=by
 intro pins s σ H x y v u Q I rx ry h;obtain⟨hs,q⟩:=h
 cases x with
 |non=>
  cases rx
  cases y with
  |non=>cases ry;exact PySem.EqNone.ne_none_none (yj I q (by simp))
  |bl j=>cases ry;exact PySem.EqNone.ne_none_bool (yj I q (by simp))
  |int j=>obtain⟨t',rfl⟩:=ry;exact PySem.EqNone.ne_none_int (yj I q (by simp))
  |str j=>obtain⟨t',rfl⟩:=ry;exact PySem.EqNone.ne_none_str (yj I q (by simp))
  |_=>exact absurd (show false=true from hs) Bool.false_ne_true
 |bl i=>
  cases rx
  cases y with
  |non=>cases ry;exact PySem.EqNone.ne_bool_none (yj I q (by simp))
  |bl j=>cases ry;exact ne_bool (yj I q (congrArg not zlp))
  |str j=>obtain⟨t',rfl⟩:=ry;exact PySem.EqMixed.ne_bool_str (yj I q (by simp))
  |_=>exact absurd (show false=true from hs) Bool.false_ne_true
 |int i=>
  obtain⟨t,rfl⟩:=rx
  cases y with
  |non=>cases ry;exact PySem.EqNone.ne_int_none (yj I q (by simp))
  |int j=>obtain⟨t',rfl⟩:=ry;exact ne_int (yj I q (congrArg not ziw))
  |str j=>obtain⟨t',rfl⟩:=ry;exact PySem.EqMixed.ne_int_str (yj I q (by simp))
  |_=>exact absurd (show false=true from hs) Bool.false_ne_true
 |str i=>
  obtain⟨t,rfl⟩:=rx
  cases y with
  |non=>cases ry;exact PySem.EqNone.ne_str_none (yj I q (by simp))
  |bl j=>cases ry;exact PySem.EqMixed.ne_str_bool (yj I q (by simp))
  |int j=>obtain⟨t',rfl⟩:=ry;exact PySem.EqMixed.ne_str_int (yj I q (by simp))
  |str j=>obtain⟨t',rfl⟩:=ry;exact ne_str (yj I q (congrArg not zix))
  |_=>exact absurd (show false=true from hs) Bool.false_ne_true
 |byt i=>
  obtain⟨t,rfl⟩:=rx
  cases y with
  |byt j=>obtain⟨t',rfl⟩:=ry;exact PySem.W.ne_bytes (yj I q (congrArg not ziy))
  |_=>exact absurd (show false=true from hs) Bool.false_ne_true
 |_=>cases y <;> exact absurd (show false=true from hs) Bool.false_ne_true
theorem zuc:OpR X (compareOp .Lt) (rI0 λi j=>.bl (decide (i<j))):=zoy λ_ _ _ _ _ _ _ q=>lt_int q
theorem zud:OpR X (compareOp .LtE) (rI0 λi j=>.bl (decide (i<=j))):=zoy λ_ _ _ _ _ _ _ q=>le_int q
theorem zqq:OpR X (compareOp .Gt) (rI0 λi j=>.bl (decide (j<i))):=zoy λ_ _ _ _ _ _ _ q=>gt_int q
theorem zue:OpR X (compareOp .GtE) (rI0 λi j=>.bl (decide (j<=i))):=zoy λ_ _ _ _ _ _ _ q=>ge_int q
theorem z0(b:Expr){op:CmpOp}(h:op ≠ .In:=by decide)(h2:op ≠ .NotIn:=by decide):behindInMarks op b=false:=by
 have e1:(op == CmpOp.In)=false:=by cases op <;> first|rfl|exact absurd rfl h
 have e2:(op == CmpOp.NotIn)=false:=by cases op <;> first|rfl|exact absurd rfl h2
 cases b <;> simp[behindInMarks,e1,e2]
def zuf(t:TE):TT:=λσ H Q=>t σ H λx H'=>∃k,x=.bl k/\Q k H'
theorem ziz{op:CmpOp}{r:R2}(ho:OpR X (compareOp op) r)(ha:PE X a ta)(hb:PE X b tb)(hm:behindInMarks op b=false):PT X (.Compare a [op] [b] pos) (zuf (tOp r ta tb)):=by
 intro pins s σ H Q I h;refine wpAny_isTrue_Compare1 (thn (ha pins s σ H _ I h) λv s1 ⟨x,H1,I1,r1,q1⟩=>thn (hb pins s1 σ H1 _ I1 q1) λu s2 ⟨y,H2,I2,r2,q2⟩=>
  thn (ho pins s2 σ H2 x y v u _ I2 r1 r2 q2) λc s3 ⟨z,H3,I3,r3,k,e,q3⟩=>?_) hm
 subst e
 cases r3;exact wpAny_truthy_bool ⟨H3,I3,q3⟩
def zrr(K:PySem.W.Frag)(x:V)(H:Hp)(k:Bool):Prop :=
 match x with
 |.non=>k=false
 |.bl b=>k=b
 |.int i=>k=(i != 0)
 |.str y=>y.length<=sizeLine/\k=((y.length:Int) != 0)
 |.byt y=>y.size<=sizeLine/\k=((y.size:Int) != 0)
 |.ref p=>(∃xs,SqL K H p xs/\k = !xs.isEmpty)\/(∃xs,SqT K H p xs/\k = !xs.isEmpty)\/∃kvs,H p=some (.dK kvs)/\k = !kvs.isEmpty
 |_=>False
theorem zg9{κ:Type}{kvs:List (κ×V)}{vs:List (κ×Value)}(r:KV kvs vs):(!vs.isEmpty) = !kvs.isEmpty:=by
 cases r <;> rfl
theorem zb0{xs:List V}{its:List Value}(r:Vals xs its):(!its.toArray.isEmpty) = !xs.isEmpty:=by
 cases r <;> simp
theorem jd:(sizeLine:Nat)<2 ^ 63:=by rw[sizeLine_eq];decide
theorem zrs:zvz X (λx H Q=>∃k,zrr X.K x H k/\Q k H):=by
 intro pins s σ H x v Q I rx h;obtain⟨k,e,q⟩:=h;have hl:=jd;have hs:sizeLine=16777216:=sizeLine_eq
 cases x with
 |non=>
  cases rx;have e':k=false:=e;subst e';exact truthy_none ⟨H,I,q⟩
 |bl b=>
  cases rx;have e':k=b:=e;subst e';exact wpAny_truthy_bool ⟨H,I,q⟩
 |int i=>
  obtain⟨t,rfl⟩:=rx;have e':k=(i != 0):=e;subst e';exact PySem.P.truthy_int ⟨H,I,q⟩
 |str y=>
  obtain⟨t,rfl⟩:=rx;obtain⟨hy,e'⟩:y.length<=sizeLine/\k=((y.length:Int) != 0):=e;subst e';exact PySem.P.truthy_str (by lia) ⟨H,I.tok _,q⟩
 |byt y=>
  obtain⟨t,rfl⟩:=rx;obtain⟨hy,e'⟩:y.size<=sizeLine/\k=((y.size:Int) != 0):=e;subst e';exact PySem.W.truthy_bytes (by lia) ⟨H,I.tok _,q⟩
 |ref p=>
  cases rx;have e':(∃xs,SqL X.K H p xs/\k = !xs.isEmpty)\/(∃xs,SqT X.K H p xs/\k = !xs.isEmpty)\/∃kvs,H p=some (.dK kvs)/\k = !kvs.isEmpty:=e;rcases e' with⟨xs,hx,e'⟩ |⟨xs,hx,e'⟩ |⟨kvs,hx,e'⟩
  ·subst e';obtain⟨its,r,pl,hz⟩:=I.list hx;have hlen:=r.length;exact wpAny_truthy_list pl.isList (by simp only[List.size_toArray];lia) ⟨H,I.tok _,by rw[zb0 r];exact q⟩
  ·subst e';obtain⟨its,r,pl,hz⟩:=I.tuple hx;have hlen:=r.length;exact truthy_tuple pl (by simp only[List.size_toArray];lia) ⟨H,I.tok _,by rw[zb0 r];exact q⟩
  ·subst e';obtain⟨hz,hS,vs,r,m⟩:kvs.length<=sizeLine/\(p == sysModules)=false/\∃vs,KV kvs vs/\s.heap.DictOf (mixKind X.prog X.w) p vs:=I.hok p _ hx;have hlen:kvs.length=vs.length:=Paired.length r;exact wpAny_truthy_dict hS m (by lia) ⟨H,I.tok _,by rw[zg9 r];exact q⟩
 |_=>exact(show False from e).elim
theorem zlq(ha:PE X a ta)(he:∀whole,isTrue a X.env whole=(do let v <-whole;standAt a.pos;holding [v] (truthy v))):
  PT X a (λσ H Q=>ta σ H λx H'=>∃k,zrr X.K x H' k/\Q k H'):=by
 intro pins s σ H Q I h;exact isTrue_plain (thn (ha pins s σ H _ I h) λv s1 ⟨x,H1,I1,r1,q1⟩=>zrs pins s1 σ H1 x v Q I1 r1 q1) (he _)
theorem zha:OpR X (binaryOp .Add) (λx y H Q=>∃i j,x=.str i/\y=.str j/\i.length+j.length<=sizeLine/\Q (.str (i++j)) H):=by
 intro pins s σ H x y v u Q I rx ry h;obtain⟨i,j,rfl,rfl,hz,q⟩:=h;obtain⟨t,rfl⟩:=rx;obtain⟨t',rfl⟩:=ry;exact add_str (λt' tk=>⟨.str (i++j),H,I.tok _,⟨_,rfl⟩,q⟩) hz
theorem zfg{x:V}{us:List Value}(r:Vals [x] us):∃u,us = [u]/\RelV x u:=by
 cases r with
 |cons r1 r2=>cases r2;exact⟨_,rfl,r1⟩
theorem zqr{x y:V}{us:List Value}(r:Vals [x,y] us):∃u w',us = [u,w']/\RelV x u/\RelV y w':=by
 cases r with
 |cons r1 r2=>
  cases r2 with
  |cons r3 r4=>cases r4;exact⟨_,_,rfl,r1,r3⟩
theorem zkg(hc:X.calm=true):wj X (.builtin "max") (λxs H Q=>∃i j,xs = [.int i,.int j]/\Q (.int (if j > i then j else i)) H):=by
 intro pins s σ H xs us Q I r h;obtain⟨i,j,rfl,q⟩:=h;obtain⟨u,w',rfl,⟨t,rfl⟩,⟨t',rfl⟩⟩:=zqr r;refine max_two_ints (I.ok.hd hc) λh' tk k=>⟨_,H,I.kept k,?_,q⟩
 by_cases hj:j > i
 ·rw[if_pos hj,if_pos hj];exact⟨_,rfl⟩
 ·rw[if_neg hj,if_neg hj];exact⟨_,rfl⟩
theorem zkh(hc:X.calm=true):wj X (.builtin "min") (λxs H Q=>∃i j,xs = [.int i,.int j]/\Q (.int (if j<i then j else i)) H):=by
 intro pins s σ H xs us Q I r h;obtain⟨i,j,rfl,q⟩:=h;obtain⟨u,w',rfl,⟨t,rfl⟩,⟨t',rfl⟩⟩:=zqr r;refine min_two_ints (I.ok.hd hc) λh' tk k=>⟨_,H,I.kept k,?_,q⟩
 by_cases hj:j<i
 ·rw[if_pos hj,if_pos hj];exact⟨_,rfl⟩
 ·rw[if_neg hj,if_neg hj];exact⟨_,rfl⟩
theorem zki:wj X (.type "int") (λxs H Q=>(∃i,xs = [.int i]/\Q (.int i) H)\/∃k,xs = [.bl k]/\Q (.int (if k then 1 else 0)) H):=by
 intro pins s σ H xs us Q I r h;rcases h with⟨i,rfl,q⟩ |⟨k,rfl,q⟩
 ·obtain⟨u,rfl,t,rfl⟩:=zfg r;exact call_int_int ⟨.int i,H,I,⟨_,rfl⟩,q⟩
 ·obtain⟨u,rfl,r1⟩:=zfg r
  cases r1;exact call_int_bool ⟨.int (if k then 1 else 0),H,I.tok _,⟨_,rfl⟩,q⟩
def zv0(K:PySem.W.Frag)(x:V)(H:Hp)(n:Nat):Prop :=
 match x with
 |.str y=>y.length<=sizeLine/\n=y.length
 |.byt y=>y.size<=sizeLine/\n=y.size
 |.ref p=>(∃xs,SqL K H p xs/\n=xs.length)\/∃xs,SqT K H p xs/\n=xs.length
 |_=>False
theorem zlr:wj X (.builtin "len") (λxs H Q=>∃x n,xs = [x]/\zv0 X.K x H n/\Q (.int n) H):=by
 intro pins s σ H xs us Q I r h;obtain⟨x,n,rfl,e,q⟩:=h;obtain⟨u,rfl,rx⟩:=zfg r;have hl:=jd;have hs:sizeLine=16777216:=sizeLine_eq
 cases x with
 |str y=>
  obtain⟨t,rfl⟩:=rx;obtain⟨hy,e'⟩:y.length<=sizeLine/\n=y.length:=e;subst e';exact len_str (by lia) ⟨.int _,H,I.tok _,⟨_,rfl⟩,q⟩
 |byt y=>
  obtain⟨t,rfl⟩:=rx;obtain⟨hy,e'⟩:y.size<=sizeLine/\n=y.size:=e;subst e';exact PySem.W.len_bytes (by lia) ⟨.int _,H,I.tok _,⟨_,rfl⟩,q⟩
 |ref p=>
  cases rx;have e':(∃xs,SqL X.K H p xs/\n=xs.length)\/∃xs,SqT X.K H p xs/\n=xs.length:=e;rcases e' with⟨xs,hx,e'⟩ |⟨xs,hx,e'⟩
  ·subst e';obtain⟨its,r',pl,hz⟩:=I.list hx;have hlen:=r'.length;exact Calls.call_len_list pl.isList (by simp only[List.size_toArray];lia) ⟨.int xs.length,H,I.tok _,⟨_,by simp only[List.size_toArray];rw[hlen]⟩,q⟩
  ·subst e';obtain⟨its,r',pl,hz⟩:=I.tuple hx;have hlen:=r'.length;exact len_tuple pl (by simp only[List.size_toArray];lia) ⟨.int xs.length,H,I.tok _,⟨_,by simp only[List.size_toArray];rw[hlen]⟩,q⟩
 |_=>exact(show False from e).elim
end
structure Room(k:Nat)(A:Around):Prop where
 hd:A.handled=none
 dp:A.depth+3 * k+5<recursionLimit
 un:A.units+16 * k+200<cLine
 gd:A.guards=some []
theorem Room.mono{j k:Nat}{A:Around}(r:Room k A)(h:j<=k):Room j A:=⟨r.hd,by have:=r.dp;lia,by have:=r.un;lia,r.gd⟩
theorem Room.deeper{k:Nat}{A:Around}(r:Room (k+1) A)(env:Env):Room k (A.deeper env) :=
 ⟨r.hd,by have:=r.dp;show A.depth+1+3 * k+5<_;lia,by have:=r.un;show A.units+3+16 * k+200<_;lia,r.gd⟩
theorem Room.depth{k:Nat}{A:Around}(r:Room k A):A.depth<recursionLimit:=by have:=r.dp;lia
theorem Room.units{k:Nat}{A:Around}(r:Room k A):A.units+64<cLine:=by have:=r.un;lia
def zv1:TA:=λ_ H Q=>Q [] H
def zug(ta:TE)(tr:TA):TA:=λσ H Q=>ta σ H λx H1=>tr σ H1 λxs H2=>Q (x::xs) H2
section
variable {X:Cx}{e:Expr}{es:List Expr}{te:TE}{t:TA}{pos:Pos}
theorem x3:PA X [] zv1:=λ_ _ _ _ H Q I h=>Calls.spliced_nil ⟨[],H,I,.nil,h⟩
theorem yw(ha:PE X e te)(hr:PA X es t)(hs:starEach (e::es) X.env=(false,eval e X.env)::starEach es X.env:=by rfl):PA X (e::es) (zug te t):=by
 intro pos pins s σ H Q I h;rw[hs];show wpAny _ _ (spliced ((false,eval e X.env)::backTo pos (starEach es X.env))) _ _ s;refine Calls.spliced_cons (thn (ha pins s σ H _ I h) λu s1 ⟨x,H1,I1,r1,q1⟩=>?_);exact thn (hr pos pins s1 σ H1 _ I1 q1) λus s2 ⟨xs,H2,I2,r2,q2⟩=>⟨x::xs,H2,I2,.cons r1 r2,q2⟩
def zv2(t:TA):TE:=λσ H Q=>t σ H λxs H1=>xs.length<=sizeLine/\∀p,H1 p=none->Q (.ref p) (upd H1 p (.tup xs))
def zv3(t:TA):TE:=λσ H Q=>t σ H λxs H1=>xs.length<=sizeLine/\∀p,H1 p=none->Q (.ref p) (upd H1 p (.lst xs))
theorem zrt{x1}(h:PA X es t):PE X (.Tuple es x1 pos) (zv2 t):=by
 intro pins s σ H Q I hq;refine wpAny_Tuple_spliced (thn (h pos pins s σ H _ I hq) λus s1 ⟨xs,H1,I1,r,z,q⟩=>⟨by rw[<-r.length];exact z,?_⟩);have hf:H1 s1.heap.objs.size=none:=I1.hok.fresh (Nat.le_refl _);refine⟨.ref s1.heap.objs.size,upd H1 s1.heap.objs.size (.tup xs),I1.laid (t':=s1.toks) (λb u e=>Heap.get?_push_of_some _ e) (Nat.le_refl _) ?_,rfl,q _ hf⟩;exact⟨z,us,r,⟨_,Heap.get?_push_size _ rfl,rfl,⟨_,rfl⟩,rfl⟩⟩
theorem zhb(h:PA X es t):PE X (.List es pos) (zv3 t):=by
 intro pins s σ H Q I hq;refine wpAny_List_spliced (thn (h pos pins s σ H _ I hq) λus s1 ⟨xs,H1,I1,r,z,q⟩=>⟨by rw[<-r.length];exact z,?_⟩);have hf:H1 s1.heap.objs.size=none:=I1.hok.fresh (Nat.le_refl _);refine⟨.ref s1.heap.objs.size,upd H1 s1.heap.objs.size (.lst xs),I1.laid (t':=s1.toks) (λb u e=>Heap.get?_push_of_some _ e) (Nat.le_refl _) ?_,rfl,q _ hf⟩;exact⟨z,us,0,r,Heap.get?_push_size _ rfl⟩
end
abbrev Sp:=List V->Hp->VK->XK->Prop
abbrev CXT:=List Env->Hp->Shared->XK->Value->Shared->Prop
structure zls(P:Program)(w:World)(K:PySem.W.Frag)(mg:Str->Option Value)(base:Heap)(A:Around)(outer:List Env)(s:Shared)(H:Hp):Prop where
 frames:A.frames=some outer
 mod:Mod K mg base
 bs:∀b o,base.get? b=some o->s.heap.get? b=some o/\H b=none
 bsz:base.objs.size<=s.heap.objs.size
 funs:s.heap.FunFrames base outer
 frf:∀b∈frs outer,H b=none
 hok:HOk P w H s.heap
 bare:AllBare s.gens
def CE(outer:List Env)(P:Program)(w:World)(H:Hp)(s:Shared)(Q:VK)(u:Value)(s':Shared):Prop :=
 ∃v H',s'.os=s.os/\AllBare s'.gens/\Un (frs outer) [] H H' s.heap s'.heap/\HOk P w H' s'.heap/\RelV v u/\Q v H'
def CR(CX:CXT)(outer:List Env)(P:Program)(w:World)(H:Hp)(s:Shared)(Q:VK)(E:XK)(r:Result)(s':Shared):Prop :=
 match r with
 |.ok (.ret u)=>CE outer P w H s Q u s'
 |.ok _=>False
 |.error e=>CX outer H s E e s'
structure FnOk(P:Program)(w:World)(K:PySem.W.Frag)(mg:Str->Option Value)(base:Heap)(CX:CXT)(k:Nat)(f:Addr)(fd:FuncData)(ps:List Str)(sp:Sp):Prop where
 len:∀vs H Q E,sp vs H Q E->vs.length=ps.length
 run:∀(A:Around) (outer:List Env) (s:Shared) (H:Hp) (args:Args) (us:List Value) (vs:List V) (Q:VK) (E:XK),Room k A->zls P w K mg base A outer s H->BindsTo s fd args (ps.zip us)->Vals vs us->sp vs H Q E ->
  codeAny (model P w) A (.call (.ref f) args) (CR CX outer P w H s Q E) s
theorem FnOk.imp{P:Program}{w:World}{K:PySem.W.Frag}{mg:Str->Option Value}{base:Heap}{CX:CXT}{k:Nat}{f:Addr}{fd:FuncData}{ps:List Str}{sp sp':Sp}(F:FnOk P w K mg base CX k f fd ps sp)
  (h:∀vs H Q E,sp' vs H Q E->sp vs H Q E):FnOk P w K mg base CX k f fd ps sp' :=
 ⟨λvs H Q E q=>F.len vs H Q E (h _ _ _ _ q),λA outer s H args us vs Q E hr he hb hv hs=>F.run A outer s H args us vs Q E hr he hb hv (h _ _ _ _ hs)⟩
section
variable {X:Cx}{pins:List (Addr×Obj)}{σ:St}{H:Hp}{s s':Shared}
theorem Inv.env0(I:Inv X pins σ H s):zls X.prog X.w X.K X.mg X.base X.A X.stack s H :=
 ⟨I.ok.frames,I.ok.mod,I.bs,Nat.le_trans I.ok.bsz I.sz,I.stack,I.stkFree,I.hok,I.bare⟩
theorem Inv.after{Q:VK}{u:Value}(I:Inv X pins σ H s)(h:CE X.stack X.prog X.w H s Q u s'):EP X pins σ Q u s':=by
 obtain⟨v,H',os,bare,un,hok,r,q⟩:=h;obtain⟨hh,g,d,t,os'⟩:=s';obtain rfl:os'=s.os:=os;exact⟨v,H',I.call (h':=hh) (g':=g) (d':=d) (t':=t) (ch:=[]) un hok bare (λb z=>absurd z (by simp)),r,q⟩
end
def zqs(sp:Sp)(dvs:List V)(E:XK)(t:TA):TE:=λσ H Q=>t σ H λvs H1=>sp (vs++dvs) H1 Q E
def Binds(K:PySem.W.Frag)(fd:FuncData)(ps:List Str)(ds:List Value):Prop :=
 ∀(s:Shared) (us:List Value),K.In s.heap->(us++ds).length=ps.length->BindsTo s fd ⟨us,[]⟩ (ps.zip (us++ds))
theorem Binds.all{K:PySem.W.Frag}{fd:FuncData}{ps:List Str}(h:∀us:List Value,us.length=ps.length->bindArgs fd ⟨us,[]⟩=pure (ps.zip us)):Binds K fd ps []:=λs us _ hl=>by
 rw[List.append_nil]at hl ⊢;exact .of_eq (h us hl)
def zhc(CX:CXT)(X:Cx)(E:XK):Prop:=∀(pins:List (Addr×Obj)) (σ:St) (H:Hp) (s:Shared) (e:Value) (s':Shared),Inv X pins σ H s->CX X.stack H s E e s'->X.xe e s'
section
variable {X:Cx}{CX:CXT}{k:Nat}{f C:Addr}{fd:FuncData}{ps:List Str}{sp:Sp}{dvs:List V}{ds:List Value}{E:XK}{x m:Str}{p pos apos:Pos}{e o:Expr}{es:List Expr}{ta:TE}{t:TA}
theorem zru{pins:List (Addr×Obj)}{σ:St}{H:Hp}{s:Shared}{Q:VK}{us:List Value}{vs:List V}(F:FnOk X.prog X.w X.K X.mg X.base CX k f fd ps sp)(hr:Room k X.A)(hb:Binds X.K fd ps ds)(hd:Vals dvs ds)(hx:zhc CX X E)
  (I:Inv X pins σ H s) (r:Vals vs us) (h:sp (vs++dvs) H Q E):wpAny (model X.prog X.w) X.A (call (.ref f) us) (EP X pins σ Q) X.xe s:=by
 have r2:Vals (vs++dvs) (us++ds):=r.append hd;have hl:(us++ds).length=ps.length:=by rw[<-r2.length];exact F.len _ _ _ _ h
 refine wpAny_call (codeAny_mono (F.run X.A X.stack s H ⟨us,[]⟩ (us++ds) (vs++dvs) Q E hr I.env0 (hb s us I.kIn hl) r2 h) λr s' hq=>?_)
 cases r with
 |error e=>exact hx pins σ H s e s' I hq
 |ok fl=>
  cases fl with
  |ret u=>exact I.after hq
  |next=>exact False.elim hq
  |brk=>exact False.elim hq
  |cont=>exact False.elim hq
theorem zoz(F:FnOk X.prog X.w X.K X.mg X.base CX k f fd ps sp)(hr:Room k X.A)(hg:Gl X x)(hm:X.mg x=some (.ref f))(hk:PySem.W.keepIn X.K (.ref f)=true)(hb:Binds X.K fd ps ds)(hd:Vals dvs ds)(hx:zhc CX X E)
  (ha:PA X (e::es) t) (hdb:(x ==("__debug__" : Str))=false:=by decide) (he:starEach (e::es) X.env=(false,eval e X.env)::starEach es X.env:=by rfl) (hpl:(backTo pos (starEach es X.env)).any (·.1)=false:=by rfl) :
  PE X (.Call (.Name x p) (e::es) [] pos) (zqs sp dvs E t):=by
 intro pins s σ H Q I h;refine wpAny_Call_Name_kw (ziu I hg hm ?_ hdb);refine PySem.W.callWith_K (h₀:=X.base) I.ok.mod.kin hk (thn (ha pos pins s σ H _ I h) λus s1 ⟨vs,H1,I1,r,q⟩=>⟨I1.kIn,?_⟩) he hpl;exact zru F hr hb hd hx I1 r q
end
structure z4(N P:List Str)(sc:Scope):Prop where
 kind:sc.kind=.function
 co:sc.isCoroutine=false
 gen:sc.isGenerator=false
 nd:N.Nodup
 pre:N.take P.length=P
 par:∀x∈P,sc.names.lookup x=some .local\/sc.names.lookup x=some .cell
 nofree:∀y∈sc.names,y.2 ≠ .free
theorem zde{kindOf:Str->Option NameKind}{x:Str}:∀{binds:List (Str×Value)}{m:Str->Option Value},(∀v,(x,v)∉binds)->bindL kindOf binds m x=m x
 |[],_,_=>rfl
 |(n,v)::r,m,h=>by
  unfold bindL;rw[zde λw hw=>h w (List.mem_cons_of_mem _ hw)]
  split
  ·have:x≠n:=by rintro rfl;exact h v List.mem_cons_self
   simp[this]
  ·rfl
theorem zdf{kindOf:Str->Option NameKind}{x:Str}:∀{binds:List (Str×Value)}{m:Str->Option Value},(∀v,(x,v)∉binds)->bindC kindOf binds m x=m x
 |[],_,_=>rfl
 |(n,v)::r,m,h=>by
  unfold bindC;rw[zdf λw hw=>h w (List.mem_cons_of_mem _ hw)]
  split
  ·rfl
  ·have:x≠n:=by rintro rfl;exact h v List.mem_cons_self
   simp[this]
theorem zdg{kindOf:Str->Option NameKind}{x:Str}{v:Value}:∀{P:List Str}{vs:List Value}{i:Nat}{m:Str->Option Value},P.Nodup->P[i]?=some x->vs[i]?=some v->kindOf x=some .local ->
  bindL kindOf (P.zip vs) m x=some v
 |[],_,_,_,_,h,_,_=>by simp at h
 |_::_,[],_,_,_,_,h,_=>by simp at h
 |p::P,w::vs,0,m,nd,h1,h2,hk=>by
  simp at h1 h2;subst h1;subst h2;show bindL kindOf ((p,w)::P.zip vs) m p=_;unfold bindL;rw[zde λv hv=>(List.nodup_cons.mp nd).1 (List.of_mem_zip hv).1,if_pos hk];simp
 |p::P,w::vs,i+1,m,nd,h1,h2,hk=>by
  show bindL kindOf ((p,w)::P.zip vs) m x=_;unfold bindL;exact zdg (i:=i) (List.nodup_cons.mp nd).2 (by simpa using h1) (by simpa using h2) hk
theorem zdh{kindOf:Str->Option NameKind}{x:Str}{v:Value}:∀{P:List Str}{vs:List Value}{i:Nat}{m:Str->Option Value},P.Nodup->P[i]?=some x->vs[i]?=some v->kindOf x≠some .local ->
  bindC kindOf (P.zip vs) m x=some v
 |[],_,_,_,_,h,_,_=>by simp at h
 |_::_,[],_,_,_,_,h,_=>by simp at h
 |p::P,w::vs,0,m,nd,h1,h2,hk=>by
  simp at h1 h2;subst h1;subst h2;show bindC kindOf ((p,w)::P.zip vs) m p=_;unfold bindC;rw[zdf λv hv=>(List.nodup_cons.mp nd).1 (List.of_mem_zip hv).1,if_neg hk];simp
 |p::P,w::vs,i+1,m,nd,h1,h2,hk=>by
  show bindC kindOf ((p,w)::P.zip vs) m x=_;unfold bindC;exact zdh (i:=i) (List.nodup_cons.mp nd).2 (by simpa using h1) (by simpa using h2) hk
def vo(N:List Str)(vs:List V):St:=vs.map some++List.replicate (N.length-vs.length) none
def zfh(CX:CXT)(P:Program)(w:World)(K:PySem.W.Frag)(mg:Str->Option Value)(base:Heap)(N:List Str)(qual:Str)(scope:Scope)(f:Addr)(cd:Value)(A:Around)(outer:List Env)(s:Shared)(H:Hp)(E:XK):Cx where
 prog:=P
 w:=w
 K:=K
 mg:=mg
 base:=base
 A:=A.deeper (envOfC qual scope s.heap.objs.size f cd)
 N:=N
 s₀:=s
 H₀:=H
 env:=envOfC qual scope s.heap.objs.size f cd
 outer:=outer
 stack:=envOfC qual scope s.heap.objs.size f cd::outer
 ex:=[]
 calm:=true
 fn:=λ_=>true
 pn:=[]
 xe:=λe s'=>wpAny (model P w) (A.deeper (envOfC qual scope s.heap.objs.size f cd)) (leaving (envOfC qual scope s.heap.objs.size f cd) e) (λ_ s''=>CX outer H s E e s'') (λe' s''=>CX outer H s E e' s'') s'
theorem zfi{sc:Scope}{n:Nat}{x:Str}(h:sc.names.lookup x=some .cell):∃c,(cellsFrom n sc.names []).lookup x=some c:=by
 have q:=PySem.W.cellsFrom_some sc.names n [] (.inl h);exact Option.isSome_iff_exists.mp q
theorem zkj{CX:CXT}{P:Program}{w:World}{K:PySem.W.Frag}{mg:Str->Option Value}{base:Heap}{N ps:List Str}{qual:Str}{scope:Scope}{f:Addr}{cd:Value}{A:Around}{outer:List Env}{s s1:Shared}{H:Hp}{E:XK}{us:List Value}{vs:List V}
  (S:z4 N ps scope) (hd:A.handled=none) (e0:zls P w K mg base A outer s H) (hl:vs.length=ps.length) (r:Vals vs us)
  (x:InCallC s s.heap.objs.size (bindL (envOfC qual scope s.heap.objs.size f cd).kindOf (ps.zip us) λ_=>none) (cellsFrom (s.heap.objs.size+1) scope.names []) (bindC (envOfC qual scope s.heap.objs.size f cd).kindOf (ps.zip us) λ_=>none) s1) :
  Inv (zfh CX P w K mg base N qual scope f cd A outer s H E) [] (vo N vs) H s1:=by
 have hpl:ps.length<=N.length:=by have:=congrArg List.length S.pre;rw[List.length_take]at this;lia
 obtain⟨h1,tk,rfl,hk⟩:=x.done;have noA:∀b:Addr,b∉(zfh CX P w K mg base N qual scope f cd A outer s H E).ex:=λb z=>absurd (show b∈([]:List Addr) from z) (by simp);refine⟨⟨e0.mod,S.kind,rfl,rfl,Nat.le_refl _,λy z c h1 h2=>?_,λy hy=>?_,λy c _ h=>?_,λ_=>hd,Around.frames_deeper e0.frames,.inr ⟨rfl,rfl⟩,λb z=>absurd z (noA b),e0.bs,e0.bsz,λb _ _=>noA b,λb z=>absurd z (noA b),e0.funs,e0.frf⟩,
  rfl,e0.bare,Un.kept hk,⟨_,x.toInCall.ns,λi y v h1 h2 h3=>?_⟩,λy c h=>⟨_,x.cell y c h⟩,e0.hok.fresh (Nat.le_refl _),λy c h=>?_,λp hp=>absurd (show p∈([]:List (Addr×Obj)) from hp) (by simp),e0.hok.kept hk,?_⟩
 ·exact name_of_addr x.apart (PySem.mem_of_lookup h1) (PySem.mem_of_lookup h2)
 ·have hy:scope.names.lookup y=some .cell\/scope.names.lookup y=some .free:=hy;rcases hy with hy|hy
  ·exact zfi hy
  ·exact absurd rfl (S.nofree _ (PySem.mem_of_lookup hy))
 ·exact Nat.le_of_lt (x.above y c (PySem.mem_of_lookup h))
 ·have hi:i<vs.length:=by
   unfold vo at h2
   by_cases hi:i<vs.length
   ·exact hi
   ·rw[List.getElem?_append_right (by simpa using hi)]at h2;rw[List.getElem?_replicate]at h2
    split at h2 <;> cases h2
  have ha:vs[i]?=some v:=by
   unfold vo at h2;rw[List.getElem?_append_left (by simpa using hi),List.getElem?_map]at h2
   cases e:vs[i]? with
   |none=>rw[e]at h2;cases h2
   |some a=>rw[e]at h2;cases h2;rfl
  obtain⟨u,hu,rv⟩:=r.get ha;have hp:ps[i]?=some y:=by
   rw[<-S.pre,List.getElem?_take_of_lt (by lia)];exact h1
  have ndP:ps.Nodup:=by rw[<-S.pre];exact S.nd.sublist (List.take_sublist _ _)
  refine⟨u,rv,?_⟩;rcases S.par y (List.mem_of_getElem? hp) with k|k
  ·exact .inl ⟨k,zdg ndP hp hu k⟩
  ·obtain⟨c,e⟩:=zfi (n:=s.heap.objs.size+1) k;refine .inr ⟨.inl k,c,e,?_⟩;have q:=x.cell y c e;rw[zdh ndP hp hu (by show scope.names.lookup y≠_;rw[k];decide)]at q;exact q
 ·exact e0.hok.fresh (Nat.le_of_lt (x.above y c (PySem.mem_of_lookup h)))
 ·unfold vo;show _=N.length;rw[List.length_append,List.length_map,List.length_replicate];lia
theorem zuh{CX:CXT}{P:Program}{w:World}{K:PySem.W.Frag}{mg:Str->Option Value}{base:Heap}{k:Nat}{f:Addr}{name qual:Str}{params:Arguments}{body:List Stmt}{scope:Scope}{dV kV doc pm cdv ct oc:Value}{an od:Option Addr}
  {osl:Array (Option Value)}{N ps:List Str}{sp:Sp} (lk:K.lookup f=some ⟨oc,od,.func (PySem.W.fnOf name qual params body scope dV kV doc pm an cdv ct),osl⟩) (hcd:PySem.W.codeIn K cdv qual=true) (S:z4 N ps scope)
  (len:∀vs H Q E,sp vs H Q E->vs.length=ps.length)
  (hbody:∀(A:Around) (outer:List Env) (s:Shared) (H:Hp) (vs:List V) (Q:VK) (E:XK),Room k (A.deeper (envOfC qual scope s.heap.objs.size f cdv))->sp vs H Q E ->
   ∃t,PSs (zfh CX P w K mg base N qual scope f cdv A outer s H E) body t/\t { nx:=λ_ H'=>Q .non H',rt:=Q } (vo N vs) H) :
  FnOk P w K mg base CX (k+1) f (PySem.W.fnOf name qual params body scope dV kV doc pm an cdv ct) ps sp:=by
 refine⟨len,λA outer s H args us vs Q E hr e0 hb r hsp=>?_⟩;have hl:=len _ _ _ _ hsp;have KX:K.In s.heap:=e0.mod.kin.keeps λb o e=>(e0.bs b o e).1;have lim:s.heap.NoLimit:=e0.mod.nolimit.keeps λb o e=>(e0.bs b o e).1;have hkind:∀y∈ps.zip us,scope.names.lookup y.1=some .local\/(scope.names.lookup y.1=some .cell/\((cellsFrom (s.heap.objs.size+1) scope.names []).lookup y.1).isSome=true):=λ⟨n,v⟩ hy=>by
  rcases S.par n (List.of_mem_zip hy).1 with q|q
  ·exact .inl q
  ·exact .inr ⟨q,PySem.W.cellsFrom_some _ _ _ (.inl q)⟩
 refine codeAny_call_function hr.depth (KX _ _ lk) rfl S.co S.gen rfl (PySem.W.codeRec_of KX hcd) (hb _ _ _ _ ?_);refine wpAny_newFunctionEnv_cells S.kind hkind λenv he s1 x=>?_;subst he;refine⟨lim.keeps x.toInCall.keep,codeAny_func ?_⟩;obtain⟨t,ht,hq⟩:=hbody A outer s H vs Q E (hr.deeper _) hsp;have I:Inv (zfh CX P w K mg base N qual scope f cdv A outer s H E) [] (vo N vs) H s1:=zkj S hr.hd e0 hl r x;refine wpAny_mono (ht [] s1 (vo N vs) H _ I hq) (λfl s' hs=>?_) λe s' hs=>hs;have fin:∀{σ':St}{H':Hp}{v:V}{u:Value},Inv (zfh CX P w K mg base N qual scope f cdv A outer s H E) [] σ' H' s'->RelV v u->Q v H'->CE outer P w H s Q u s' :=
  λ{σ' H' v u} J rv q=>⟨v,H',J.os,J.bare,J.base,J.hok,rv,q⟩
 cases fl with
 |ret u=>
  obtain⟨v,σ',H',J,rv,q⟩:=hs;exact fin J rv q
 |next=>
  obtain⟨σ',H',J,q⟩:=hs;exact fin (v:=V.non) (u:=Value.none) J rfl q
 |brk=>
  obtain⟨_,_,_,q⟩:=hs;exact False.elim q
 |cont=>
  obtain⟨_,_,_,q⟩:=hs;exact False.elim q
section
variable {X:Cx}{x:Str}{p pos:Pos}{e:Expr}{es:List Expr}{t:TA}{id T:String}{r:List V->Hp->VK->Prop}
def tCB(r:List V->Hp->VK->Prop)(t:TA):TE:=λσ H Q=>t σ H λvs H1=>r vs H1 Q
theorem v3(hc:wj X (.builtin id) r)(hg:Gl X x)(hm:X.mg x=none)(hv:bootBuiltins x=some (.builtin id))(ha:PA X (e::es) t)(hn:x ≠ "__name__" := by decide)(hdb:(x ==("__debug__" : Str))=false:=by decide)
  (he:starEach (e::es) X.env=(false,eval e X.env)::starEach es X.env:=by rfl) (hpl:(backTo pos (starEach es X.env)).any (·.1)=false:=by rfl):PE X (.Call (.Name x p) (e::es) [] pos) (tCB r t):=by
 intro pins s σ H Q I h;refine wpAny_Call_Name_kw (jb I hg hm hv ?_ hn hdb);exact PyProof.Rows.callWith_builtin1 (thn (ha pos pins s σ H _ I h) λus s1 ⟨vs,H1,I1,r1,q1⟩=>hc pins s1 σ H1 vs us Q I1 r1 q1) he hpl
theorem zkk(hc:wj X (.type T) r)(hg:Gl X x)(hm:X.mg x=none)(hv:bootBuiltins x=some (.type T))(ha:PA X (e::es) t)(hn:x ≠ "__name__" := by decide)(hdb:(x ==("__debug__" : Str))=false:=by decide)
  (he:starEach (e::es) X.env=(false,eval e X.env)::starEach es X.env:=by rfl) (hpl:(backTo pos (starEach es X.env)).any (·.1)=false:=by rfl):PE X (.Call (.Name x p) (e::es) [] pos) (tCB r t):=by
 intro pins s σ H Q I h;refine wpAny_Call_Name_kw (jb I hg hm hv ?_ hn hdb);exact PyProof.Rows.callWith_type1 (thn (ha pos pins s σ H _ I h) λus s1 ⟨vs,H1,I1,r1,q1⟩=>hc pins s1 σ H1 vs us Q I1 r1 q1) he hpl
end
end L2
namespace HT
open PySem PyProof.Rows
theorem rcLt_int(A:Around)(s:Shared)(a:Int)(t:Tok)(c:Int)(u:Tok)(prog:Program)(w:World)(E:Value->Shared->Prop)(Q:Value->Shared->Prop)(h:Q (.bool (decide (a<c))) s):
  wpAny (model prog w) A (richCompare .Lt (.int a t) (.int c u)) Q E s :=
 (PyProof.Rows.lt_int h:wpAny (model prog w) A (compareOp .Lt (.int a t) (.int c u)) Q E s)
section
variable {prog:Program}{w:World}{A:Around}{E:Value->Shared->Prop}{s:Shared}
theorem cat_tup{t b:Addr}{vs ws:List Value}{Q:Value->Shared->Prop}(ht:IsTup s.heap t vs.toArray)(hb:IsTup s.heap b ws.toArray)(hv:vs ≠ [])
  (h1:ws = []->Q (.ref t) s) (h2:ws ≠ []->Q (.ref s.heap.objs.size) { s with heap:=s.heap.push { cls:=.type "tuple",data:=.seq (vs++ws).toArray } })
  (hsz:vs.length+ws.length<=sizeLine):wpAny (model prog w) A (binaryOp .Add (.ref t) (.ref b)) Q E s:=by
 obtain⟨⟨cls,dd,data,sl⟩,ho,hc,n,hd⟩:=id ht;obtain⟨⟨cls2,dd2,data2,sl2⟩,ho2,hc2,n2,hd2⟩:=id hb;simp only at hc hd hc2 hd2;subst hc hd hc2 hd2;have e:vs.toArray++ws.toArray=(vs++ws).toArray:=by simp
 by_cases hw:ws = []
 ·exact concat_meets ⟨_,ho,rfl⟩ ⟨_,ho2,rfl⟩ noFill_tuple_add seq_tuple_add PySem.F.slot_tuple_add PySem.F.entry_tuple_add (PySem.F.args_tuple_add_2 _ _)
   (tuple_addW1 t b vs.toArray ws.toArray n n2 dd dd2 sl sl2 (by simpa using hv) (by simp[hw])) ⟨ho,ho2,h1 hw⟩
 ·refine concat_meets ⟨_,ho,rfl⟩ ⟨_,ho2,rfl⟩ noFill_tuple_add seq_tuple_add PySem.F.slot_tuple_add PySem.F.entry_tuple_add (PySem.F.args_tuple_add_2 _ _)
   (tuple_addW2 t b vs.toArray ws.toArray n n2 dd dd2 sl sl2 (by simpa using hv) (by simpa using hw) (by rw[List.size_toArray,List.size_toArray];exact hsz)) ⟨ho,ho2,?_⟩
  rw[e];exact h2 hw
def sIx(n d:Nat):Option Int->Nat
 |none=>d
 |some v=>if v<0 then (v+(n:Int)).toNat else min v.toNat n
theorem sIx_none(n d:Nat):sIx n d none=d:=rfl
theorem sIx_nat(n d k:Nat):sIx n d (some (k:Int))=min k n:=by
 show(if (k:Int)<0 then ((k:Int)+(n:Int)).toNat else min (k:Int).toNat n)=min k n;rw[if_neg (by lia),Int.toNat_natCast]
theorem zrv(n d:Nat)(hd:d<=n)(o:Option Int):sIx n d o<=n:=by
 cases o with
 |none=>exact hd
 |some v=>
  show(if v<0 then (v+(n:Int)).toNat else min v.toNat n)<=n
  by_cases hv:v<0
  ·rw[if_pos hv];lia
  ·rw[if_neg hv];exact Nat.min_le_right _ _
theorem zi0(v:Int)(n d:Nat):(if v<0 then max (v+(n:Int)) 0 else min v (n:Int))=((sIx n d (some v):Nat):Int):=by
 show(if v<0 then max (v+(n:Int)) 0 else min v (n:Int))=(((if v<0 then (v+(n:Int)).toNat else min v.toNat n):Nat):Int)
 by_cases hv:v<0
 ·simp only[if_pos hv];lia
 ·simp only[if_neg hv];lia
theorem zhd(lo hi:Option Int)(n:Nat):Builtin.Slice.sliceAdjust lo hi 1 (n:Int)=(((sIx n 0 lo:Nat):Int),((sIx n n hi:Nat):Int)):=by
 have h1:¬ ((1:Int)<0):=by lia
 unfold Builtin.Slice.sliceAdjust;simp only[h1,if_false];refine Prod.ext ?_ ?_
 ·cases lo with
  |none=>rfl
  |some v=>exact zi0 v n 0
 ·cases hi with
  |none=>rfl
  |some v=>exact zi0 v n n
theorem zhe(i j:Nat):Builtin.Slice.slicePlaces (i:Int) (j:Int) 1=j-i:=by
 unfold Builtin.Slice.slicePlaces;have h1:(1:Int) > 0:=by lia
 simp only[h1,if_true,Int.ediv_one]
 split <;> lia
theorem zb1{v:Value}{o:Option Int}{Q:Option Int->Shared->Prop}(p:IsPart v o)(h:Q o s):wpAny (model prog w) A (Builtin.Slice.slicePartIndex v) Q E s:=by
 cases p with
 |none=>exact slicePart_none h
 |int i t=>exact slicePart_int h
theorem sliceApplied_gen{sl:Addr}{vl vu:Value}{lo hi:Option Int}{n:Nat}{Q:Int×Int×Nat->Shared->Prop}(hs:s.heap.IsSliceOf sl vl vu .none)(pl:IsPart vl lo)(pu:IsPart vu hi)
  (h:Q (((sIx n 0 lo:Nat):Int),1,sIx n n hi-sIx n 0 lo) s):wpAny (model prog w) A (Builtin.Slice.sliceApplied (.ref sl) (pure (n:Int))) Q E s:=by
 obtain⟨os,hos,hcs,hds⟩:=id hs;unfold Builtin.Slice.sliceApplied Builtin.Slice.sliceFields;refine wpAny_bind (wpAny_bind (wpAny_field hos hds (x:=vl) rfl (wpAny_bind (wpAny_field hos hds (x:=vu) rfl (wpAny_bind (wpAny_field hos hds (x:=.none) rfl (wpAny_pure ?_)))))));refine wpAny_bind (slicePart_none ?_);show wpAny _ _ (if ((1:Int) == 0)=true then _ else _) _ _ s;rw[if_neg (by decide)];refine wpAny_bind (zb1 pl (wpAny_bind (zb1 pu (wpAny_bind (wpAny_pure ?_)))));show wpAny _ _ (match Builtin.Slice.sliceAdjust lo hi 1 (n:Int) with |(lo,hi)=>pure (lo,(1:Int),Builtin.Slice.slicePlaces lo hi 1)) _ _ s;rw[zhd lo hi n];show wpAny _ _ (pure (((sIx n 0 lo:Nat):Int),(1:Int),Builtin.Slice.slicePlaces ((sIx n 0 lo:Nat):Int) ((sIx n n hi:Nat):Int) 1)) _ _ s;rw[zhe];exact wpAny_pure h
theorem zlt(xs:Array Value)(i k:Nat):((List.range k).filterMap λ(m:Nat)=>xs[((i:Int)+(m:Int) * 1).toNat]?).toArray=((xs.toList.drop i).take k).toArray:=by
 have e:(λ(m:Nat)=>xs[((i:Int)+(m:Int) * 1).toNat]?)=λm=>xs[i+m]?:=by
  funext m
  have:((i:Int)+(m:Int) * 1).toNat=i+m:=by lia
  rw[this]
 rw[e];have:=pick_run xs i k;rw[List.filterMap_map]at this;have e2:((λx=>xs[x]?) ∘ λx=>i+x)=λm=>xs[i+m]?:=rfl;rw[e2]at this;rw[this]
theorem getItem_tuple_cut{t sl:Addr}{items:Array Value}{vl vu:Value}{lo hi:Option Int}{Q:Value->Shared->Prop}(ht:IsTup s.heap t items)(hs:s.heap.IsSliceOf sl vl vu .none)(pl:IsPart vl lo)(pu:IsPart vu hi)
  (hw:¬ (sIx items.size 0 lo=0/\sIx items.size items.size hi=items.size))
  (h:Q (.ref s.heap.objs.size) { s with heap:=s.heap.push { cls:=.type "tuple",data:=.seq ((items.toList.drop (sIx items.size 0 lo)).take (sIx items.size items.size hi-sIx items.size 0 lo)).toArray } })
  (hsz:items.size<=sizeLine):wpAny (model prog w) A (getItem (.ref t) (.ref sl)) Q E s:=by
 have htake:sizeOk (.seq ((items.toList.drop (sIx items.size 0 lo)).take (sIx items.size items.size hi-sIx items.size 0 lo)).toArray):=by
  show((items.toList.drop (sIx items.size 0 lo)).take (sIx items.size items.size hi-sIx items.size 0 lo)).toArray.size<=sizeLine;rw[List.size_toArray,List.length_take,List.length_drop,Array.length_toList];omega
 have hj:sIx items.size items.size hi<=items.size:=zrv _ _ (Nat.le_refl _) hi;obtain⟨os,hos,hcs,hds⟩:=id hs;have hTs:s.TypeIs (.ref sl) "slice" :=⟨os,hos,hcs⟩
 unfold getItem
 try with_reducible refine wpAny_holding ?_
 first|refine wpAny_bind (wpAny_pure ?_)|skip
 refine wpAny_bind (wpAny_sequenceKey ht.typeIs (by decide) ?_);refine wpAny_bind (wpAny_callSpecial?_slot (name:=Str.ofString "__getitem__") ht.typeIs PyProof.Rows.slot_tuple_getitem
  (wpAny_call_entry PyProof.Rows.slot_tuple_getitem ht.typeIs entry_tuple_getitem ?_ (args_tuple_getitem _ _)))
 show wpAny _ _ (Builtin.Tuple.tupleItemsOf (.ref t) >>= _) _ _ s;refine wpAny_bind (tupleItemsOf_ ht ?_);refine wpAny_bind (wpAny_typeOf hTs ?_);rw[if_pos (by decide)];refine wpAny_bind (sliceApplied_gen hs pl pu ?_);have hno:¬ ((((sIx items.size 0 lo:Nat):Int) == 0 && (1:Int) == 1 && (sIx items.size items.size hi-sIx items.size 0 lo) == items.size)=true):=by
  intro q;rw[Bool.and_eq_true,Bool.and_eq_true]at q;have q1:((sIx items.size 0 lo:Nat):Int)=0:=eq_of_beq q.1.1;have q2:sIx items.size items.size hi-sIx items.size 0 lo=items.size:=eq_of_beq q.2;exact hw ⟨by (clear hsz hj q2;omega),by (clear hsz;omega)⟩
 show wpAny _ _ (if (((sIx items.size 0 lo:Nat):Int) == 0 && (1:Int) == 1 && (sIx items.size items.size hi-sIx items.size 0 lo) == items.size)=true then _ else _) _ _ s;rw[if_neg hno,zlt]
 first
  |exact wpAny_bind (m:=Builtin.Tuple.tupleExact _) (wpAny_newObj_type (wpAny_pure ⟨_,rfl,wpAny_pure h⟩) htake)
  |exact wpAny_bind (m:=Builtin.Tuple.tupleExact _) (wpAny_newObj_type (wpAny_bind (wpAny_pure (wpAny_pure ⟨_,rfl,wpAny_pure h⟩))) htake)
  |exact wpAny_bind (wpAny_bind (m:=Builtin.Tuple.tupleExact _) (wpAny_newObj_type (wpAny_pure (wpAny_pure ⟨_,rfl,wpAny_pure h⟩)) htake))
  |exact wpAny_bind (wpAny_bind (m:=Builtin.Tuple.tupleExact _) (wpAny_newObj_type (wpAny_pure ⟨_,rfl,wpAny_pure h⟩) htake))
end
end HT
namespace L2
open PySem PySem.Spec PyProof.Rows
abbrev TO:=St->Hp->(Option Int->Hp->Prop)->Prop
def PO(X:Cx)(e:Option Expr)(t:TO):Prop :=
 ∀(pins:List (Addr×Obj)) (s:Shared) (σ:St) (H:Hp) (Q:Option Int->Hp->Prop),Inv X pins σ H s->t σ H Q ->
  wpAny (model X.prog X.w) X.A (evalPart e X.env) (λu s'=>∃o H',Inv X pins σ H' s'/\IsPart u o/\Q o H') X.xe s
def zo0:TO:=λ_ H Q=>Q none H
def zui(t:TE):TO:=λσ H Q=>t σ H λx H1=>∃i,x=.int i/\Q (some i) H1
theorem zhf{ns:List Int}:∀{us:List Value},Vals (ns.map V.int) us->IntsAre us ns:=by
 induction ns with
 |nil=>intro us r;rw[List.map_nil]at r;cases r;exact .nil
 |cons n ns ih=>
  intro us r;rw[List.map_cons]at r
  cases r with
  |cons r1 r2=>
   obtain⟨t,e⟩:=r1;subst e;exact .cons n t (ih r2)
section
variable {X:Cx}{e:Expr}{te:TE}{lo hi:Option Expr}{tl th:TO}{pos p2:Pos}
theorem zo1:PO X none zo0:=by
 intro pins s σ H Q I h;rw[evalPart_none];exact wpAny_pure ⟨none,H,I,.none,h⟩
theorem zo2(h:PE X e te):PO X (some e) (zui te):=by
 intro pins s σ H Q I hw;rw[evalPart_some];refine thn (h pins s σ H _ I hw) λu s1 zy6=>?_;obtain⟨x,H1,I1,r1,q1⟩:=zy6;obtain⟨i,rfl,q⟩:=q1;obtain⟨t,rfl⟩:=r1;exact⟨some i,H1,I1,.int i t,q⟩
def SlR(X:Cx)(r:V->Option Int->Option Int->Hp->VK->Prop):Prop :=
 ∀(pins:List (Addr×Obj)) (s:Shared) (σ:St) (H:Hp) (x:V) (v vl vu:Value) (lo hi:Option Int) (sl:Addr) (Q:VK),Inv X pins σ H s->RelV x v->s.heap.IsSliceOf sl vl vu .none->IsPart vl lo->IsPart vu hi->r x lo hi H Q ->
  ∃T id,typeLookup (.type T) "__getitem__" = pure (some (.builtin id))/\s.TypeIs v T/\wpAny (model X.prog X.w) X.A (getItem v (.ref sl)) (EP X pins σ Q) X.xe s
theorem SlR.or{r r':V->Option Int->Option Int->Hp->VK->Prop}(h:SlR X r)(h':SlR X r'):SlR X (λx lo hi H Q=>r x lo hi H Q\/r' x lo hi H Q):=by
 intro pins s σ H x v vl vu lo hi sl Q I rx hs pl pu q;rcases q with q|q
 ·exact h pins s σ H x v vl vu lo hi sl Q I rx hs pl pu q
 ·exact h' pins s σ H x v vl vu lo hi sl Q I rx hs pl pu q
def tSl(r:V->Option Int->Option Int->Hp->VK->Prop)(te:TE)(tl th:TO):TE:=λσ H Q=>te σ H λx H1=>tl σ H1 λl H2=>th σ H2 λu H3=>r x l u H3 Q
theorem zfj{r:V->Option Int->Option Int->Hp->VK->Prop}(hr:SlR X r)(he:PE X e te)(hl:PO X lo tl)(hu:PO X hi th):PE X (.Subscript e (.Slice lo hi none p2) pos) (tSl r te tl th):=by
 intro pins s σ H Q I h;refine Subscript_ (thn (he pins s σ H _ I h) λv s1 ⟨x,H1,I1,r1,q1⟩=>?_);refine wpAny_Slice (thn (hl pins s1 σ H1 _ I1 q1) λvl s2 ⟨l,H2,I2,pl,q2⟩=>thn (hu pins s2 σ H2 _ I2 q2) λvu s3 ⟨u,H3,I3,pu,q3⟩=>?_);rw[evalPart_none];refine wpAny_pure ?_;have I4:Inv X pins σ H3 { s3 with heap:=s3.heap.push { cls:=.type "slice",data:=.fields #[vl,vu,.none] } }:=I3.kept (t':=s3.toks) λb ob q=>Heap.get?_push_of_some _ q;obtain⟨T,id,hT,ht,hg⟩:=hr pins { s3 with heap:=s3.heap.push { cls:=.type "slice",data:=.fields #[vl,vu,.none] } } σ H3 x v vl vu l u s3.heap.objs.size Q I4 r1 (Heap.IsSliceOf.new ..) pl pu q3;show wpAny (model X.prog X.w) X.A (subscriptTail e (.Slice lo hi none p2) v (.ref s3.heap.objs.size)) (EP X pins σ Q) X.xe { s3 with heap:=s3.heap.push { cls:=.type "slice",data:=.fields #[vl,vu,.none] } };exact tail_any (ops:=[.ref s3.heap.objs.size,v]) ht hT hg (by with_unfolding_all rfl)
def zcy(xs:List V)(lo hi:Option Int):List V:=(xs.drop (HT.sIx xs.length 0 lo)).take (HT.sIx xs.length xs.length hi-HT.sIx xs.length 0 lo)
theorem za8(xs:List V)(lo hi:Option Int):(zcy xs lo hi).length<=xs.length:=by
 unfold zcy;rw[List.length_take,List.length_drop];lia
def zv4(K:PySem.W.Frag):V->Option Int->Option Int->Hp->VK->Prop:=λx lo hi H Q=>∃a xs,x=.ref a/\SqT K H a xs /\
 ¬ (HT.sIx xs.length 0 lo=0/\HT.sIx xs.length xs.length hi=xs.length)/\∀p,H p=none->Q (.ref p) (upd H p (.tup (zcy xs lo hi)))
theorem zrw:SlR X (zv4 X.K):=by
 intro pins s σ H x v vl vu lo hi sl Q I rx hs pl pu h;obtain⟨a,xs,rfl,hx,hw,q⟩:=h
 cases rx;obtain⟨its,r,ht,hz⟩:=I.tuple hx;have hlen:its.toArray.size=xs.length:=by rw[List.size_toArray];exact r.length.symm
 refine⟨"tuple",_,PyProof.Rows.slot_tuple_getitem.lookup,ht.typeIs,?_⟩;refine HT.getItem_tuple_cut ht hs pl pu (by rw[hlen];exact hw) ?_ (by rw[hlen];exact hz);rw[hlen];refine⟨.ref s.heap.objs.size,_,I.laid (t':=s.toks) (o:=.tup (zcy xs lo hi)) (λb ob q=>Heap.get?_push_of_some _ q) (Nat.le_refl _) ?_,rfl,q _ (I.hok.fresh (Nat.le_refl _))⟩;exact⟨Nat.le_trans (za8 xs lo hi) hz,_,(r.drop (HT.sIx xs.length 0 lo)).take (HT.sIx xs.length xs.length hi-HT.sIx xs.length 0 lo),TupD.new _ _⟩
theorem Vals.nil_iff{xs:List V}{us:List Value}(r:Vals xs us):us = []↔xs = []:=by
 cases r with
 |nil=>simp
 |cons _ _=>simp
end
def ixN(n:Nat)(i:Int):Option Nat:=if 0<=i then (if i<n then some i.toNat else none) else if -(n:Int)<=i then some (i+n).toNat else none
def atI{α:Type}(xs:List α)(i:Int):Option α:=(ixN xs.length i).bind λj=>xs[j]?
theorem zi1{n:Nat}{i:Int}{j:Nat}(h:ixN n i=some j):seqIndex? i n=some j/\j<n/\-(n:Int)<=i/\i<n:=by
 unfold ixN at h
 by_cases h0:0<=i
 ·rw[if_pos h0]at h
  by_cases h1:i<n
  ·rw[if_pos h1]at h;have e:i.toNat=j:=Option.some.inj h;exact⟨by rw[seqIndex_of h0 h1,e],by lia,by lia,h1⟩
  ·rw[if_neg h1]at h;cases h
 ·rw[if_neg h0]at h
  by_cases h1 : -(n:Int)<=i
  ·rw[if_pos h1]at h;have e:(i+n).toNat=j:=Option.some.inj h;exact⟨by rw[seqIndex_neg (by lia) h1,e],by lia,h1,by lia⟩
  ·rw[if_neg h1]at h;cases h
theorem zd8{α:Type}{xs:List α}{i:Int}{v:α}(h:atI xs i=some v):∃j,seqIndex? i xs.length=some j/\xs[j]?=some v/\j<xs.length/\-(xs.length:Int)<=i/\i<xs.length:=by
 unfold atI at h
 cases e:ixN xs.length i with
 |none=>rw[e]at h;cases h
 |some j=>
  rw[e]at h;obtain⟨h1,h2,h3,h4⟩:=zi1 e;exact⟨j,h1,h,h2,h3,h4⟩
theorem qw{α:Type}{xs:List α}{j:Nat}{v:α}(h:xs[j]?=some v):atI xs (j:Int)=some v:=by
 have hj:j<xs.length:=(List.getElem?_eq_some_iff.mp h).1;have e:ixN xs.length (j:Int)=some j:=by
  unfold ixN;rw[if_pos (by lia),if_pos (by lia)];simp
 unfold atI;rw[e];exact h
theorem zfk{α:Type}(xs:List α)(v:α):atI (xs ++ [v]) (-1)=some v:=by
 have hl:(xs ++ [v]).length=xs.length+1:=by simp
 have e:ixN (xs ++ [v]).length (-1)=some xs.length:=by
  unfold ixN;rw[hl,if_neg (by decide),if_pos (by lia)];congr 1;lia
 unfold atI;rw[e];show(xs ++ [v])[xs.length]?=some v;simp
def qx(b:Expr):Prop:=∀o i,subscripted b false o i=operate [o,i] (getItem o i)
def IxR(X:Cx)(r:R2):Prop :=
 ∀(value slice:Expr) (pins:List (Addr×Obj)) (s:Shared) (σ:St) (H:Hp) (x y:V) (v u:Value) (Q:VK),Inv X pins σ H s->RelV x v->RelV y u->r x y H Q ->
  subscripted slice false v u=operate [v,u] (getItem v u)->wpAny (model X.prog X.w) X.A (subscriptTail value slice v u) (EP X pins σ Q) X.xe s
def MtR(X:Cx)(id:String)(r:V->List V->Hp->VK->Prop):Prop :=
 ∀(pins:List (Addr×Obj)) (s:Shared) (σ:St) (H:Hp) (x:V) (xs:List V) (v:Value) (us:List Value) (Q:VK),Inv X pins σ H s->RelV x v->Vals xs us->r x xs H Q ->
  wpAny (model X.prog X.w) X.A (call (.builtin id) (v::us)) (EP X pins σ Q) X.xe s
section
variable {X:Cx}{a b:Expr}{ta tb:TE}{pos:Pos}
theorem IxR.or{r r':R2}(h:IxR X r)(h':IxR X r'):IxR X (λx y H Q=>r x y H Q\/r' x y H Q):=by
 intro value slice pins s σ H x y v u Q I rx ry q hs;rcases q with q|q
 ·exact h value slice pins s σ H x y v u Q I rx ry q hs
 ·exact h' value slice pins s σ H x y v u Q I rx ry q hs
theorem v4{r:R2}(hr:IxR X r)(ha:PE X a ta)(hb:PE X b tb)(hs:qx b):PE X (.Subscript a b pos) (tOp r ta tb):=by
 intro pins s σ H Q I h;exact Subscript_ (zt7 ha hb I h λv u s2 x y H2 I2 rx ry q=>hr a b pins s2 σ H2 x y v u Q I2 rx ry q (hs _ _))
def zuj(K:PySem.W.Frag):R2:=λx y H Q=>∃p xs i v,x=.ref p/\y=.int i/\SqL K H p xs/\atI xs i=some v/\Q v H
def zuk(K:PySem.W.Frag):R2:=λx y H Q=>∃p xs i v,x=.ref p/\y=.int i/\SqT K H p xs/\atI xs i=some v/\Q v H
def zul:R2:=λx y H Q=>∃z i c,x=.str z/\y=.int i/\z.length<=sizeLine/\atI z.cps.toList i=some c/\Q (.str ⟨#[c]⟩) H
theorem ix_list:IxR X (zuj X.K):=by
 intro value slice pins s σ H x y v u Q I rx ry h hs;obtain⟨p,xs,i,z,rfl,rfl,hq,he,q⟩:=h
 cases rx;obtain⟨t,rfl⟩:=ry;obtain⟨its,r,pl,hz⟩:=I.list hq;obtain⟨j,h1,h2,h3,h4,h5⟩:=zd8 he;obtain⟨w,ew,rw'⟩:=r.get h2;have hl:=r.length;have hn:=jd;have fin:EP X pins σ Q w s:=⟨z,H,I,rw',q⟩
 by_cases h0:0<=i
 ·have hj:i.toNat=j:=by
   rw[seqIndex_of h0 h5]at h1;exact Option.some.inj h1
  exact item_listR pl.isList h0 (by lia) (by rw[hj];simpa using ew) fin hs
 ·have hj:(i+(its.toArray.size:Int)).toNat=j:=by
   rw[seqIndex_neg (by (clear hz h3 h4 h5 hl hn;lia)) h4]at h1;rw[List.size_toArray,<-hl];exact Option.some.inj h1
  exact subscriptTail_builtinR (x:=w) pl.isList.typeIs slot_list_getitem.lookup
   (wpAny_getItem_list_neg (Q:=λr s'=>r=w/\EP X pins σ Q r s') pl.isList (by lia) (by rw[List.size_toArray] <;> (clear hz h3 hj;lia)) (by lia) (by rw[hj];simpa using ew) ⟨rfl,fin⟩) hs
theorem ix_tup:IxR X (zuk X.K):=by
 intro value slice pins s σ H x y v u Q I rx ry h hs;obtain⟨p,xs,i,z,rfl,rfl,hq,he,q⟩:=h
 cases rx;obtain⟨t,rfl⟩:=ry;obtain⟨its,r,pl,hz⟩:=I.tuple hq;obtain⟨j,h1,h2,h3,h4,h5⟩:=zd8 he;obtain⟨w,ew,rw'⟩:=r.get h2;have hl:=r.length;have hn:=jd;have fin:EP X pins σ Q w s:=⟨z,H,I,rw',q⟩
 exact subscriptTail_builtinR (x:=w) pl.typeIs slot_tuple_getitem.lookup
  (getItem_tuple (j:=j) (Q:=λr s'=>r=w/\EP X pins σ Q r s') pl (by (clear h5;lia)) (by (clear h4;lia)) (by rw[List.size_toArray,<-hl];exact h1) (by simpa using ew) ⟨rfl,fin⟩) hs
theorem zrx:IxR X zul:=by
 intro value slice pins s σ H x y v u Q I rx ry h hs;obtain⟨z,i,c,rfl,rfl,hz,he,q⟩:=h;obtain⟨t,rfl⟩:=rx;obtain⟨t',rfl⟩:=ry;obtain⟨j,h1,h2,h3,h4,h5⟩:=zd8 he;have hl:z.cps.toList.length=z.length:=by simp[Str.length]
 rw[hl]at h1 h4 h5;have hn:=jd;exact tail_any (typeIs_str s z t) slot_str_getitem.lookup (getItem_str (c:=c) (by
  have e1:decide (i < -(2 ^ 63:Int))=false:=decide_eq_false (by lia);have e2:decide (i ≥ 2 ^ 63)=false:=decide_eq_false (by lia);rw[e1,e2,Bool.or_false]) (by rw[h1];simpa using h2) ⟨.str ⟨#[c]⟩,H,I.tok _,⟨_,rfl⟩,q⟩) hs
def rIx(K:PySem.W.Frag):R2:=λx y H Q=>zuj K x y H Q\/zuk K x y H Q\/zul x y H Q
theorem zry:IxR X (rIx X.K):=ix_list.or (ix_tup.or zrx)
theorem zhg(its:List Value)(n j:Nat)(u:Value):Obj.mapSeq (·.setIfInBounds j u) { cls:=.type "list",data:=.seq its.toArray n } = { cls:=.type "list",data:=.seq (its.set j u).toArray n }:=by
 simp[Obj.mapSeq]
theorem Inv.lst{pins:List (Addr×Obj)}{σ:St}{H:Hp}{s:Shared}{p:Addr}{xs:List V}(I:Inv X pins σ H s)(h:H p=some (.lst xs)):
  ∃(its:List Value) (n:Nat),Vals xs its/\s.heap.get? p=some { cls:=.type "list",data:=.seq its.toArray n }/\xs.length<=sizeLine:=by
 obtain⟨z,its,n,r,e⟩:=I.hok p _ h;exact⟨its,n,r,e,z⟩
theorem Inv.lstUpd{pins:List (Addr×Obj)}{σ:St}{H:Hp}{s:Shared}{p:Addr}{xs ys:List V}{its its':List Value}{n n':Nat}{f:Obj->Obj}(I:Inv X pins σ H s)(h:H p=some (.lst xs))
  (ho:s.heap.get? p=some { cls:=.type "list",data:=.seq its.toArray n }) (hf:f { cls:=.type "list",data:=.seq its.toArray n } = { cls:=.type "list",data:=.seq its'.toArray n' }) (r:Vals ys its') (hz:ys.length<=sizeLine) (t:Nat) :
  Inv X pins σ (upd H p (.lst ys)) { s with heap:=s.heap.update p f,toks:=t }:=by
 have e:(s.heap.update p f).get? p=some { cls:=.type "list",data:=.seq its'.toArray n' }:=by
  rw[Heap.get?_update_self f ho (by rw[hf] <;> rfl),hf]
 refine I.write (x:=p) (e:=p) (by rw[h];trivial) (.inl rfl) (λb u hb q=>(Heap.get?_update_other _ _ (Ne.symm hb)).trans q) ⟨_,e⟩ ?_;exact⟨hz,its',n',r,e⟩
def zum:V->V->V->Hp->(Hp->Prop)->Prop:=λo i v H Q=>∃p xs k j,o=.ref p/\i=.int k/\H p=some (.lst xs)/\ixN xs.length k=some j/\Q (upd H p (.lst (xs.set j v)))
theorem zb2:zt4 X zum:=by
 intro pins s σ H o i v ov iv u Q I ro ri rv h;obtain⟨p,xs,k,j,rfl,rfl,hp,hj,q⟩:=h
 cases ro;obtain⟨t,rfl⟩:=ri;obtain⟨its,n,r,ho,hz⟩:=I.lst hp;obtain⟨h1,h2,h3,h4⟩:=zi1 hj;have hl:=r.length;have hn:=jd;have I':Inv X pins σ (upd H p (.lst (xs.set j v))) { s with heap:=s.heap.update p (Obj.mapSeq (·.setIfInBounds j u)) } :=
  I.lstUpd hp ho (zhg its n j u) (r.set rv j) (by rw[List.length_set];exact hz) s.toks
 by_cases h0:0<=k
 ·have hk:k.toNat=j:=by
   rw[seqIndex_of h0 h4]at h1;exact Option.some.inj h1
  exact PySem.W.ki_setAt ho h0 (by lia) (by rw[List.size_toArray,<-hl];exact h4) (by rw[hk];exact⟨_,I',q⟩)
 ·have hk:(k+(its.toArray.size:Int)).toNat=j:=by
   rw[seqIndex_neg (by (clear hz h2 h3 h4 hl hn;lia)) h3]at h1;rw[List.size_toArray,<-hl];exact Option.some.inj h1
  exact PySem.W.ki_setBack ho (by lia) (by rw[List.size_toArray,<-hl];exact h3) (by lia) (by rw[hk];exact⟨_,I',q⟩)
theorem zd9(lo hi:Option Int)(n:Nat):(sliceBounds lo hi none n).1=((HT.sIx n 0 lo:Nat):Int)/\(sliceBounds lo hi none n).2.1=((HT.sIx n n hi:Nat):Int)/\(sliceBounds lo hi none n).2.2=1:=by
 refine⟨?_,?_,rfl⟩
 ·cases lo with
  |none=>simp[sliceBounds,HT.sIx]
  |some i=>
   simp only[sliceBounds,HT.sIx,Option.getD_none,show(1:Int) > 0 by decide,if_true]
   by_cases h:i<0
   ·simp only[h,if_true] <;> lia
   ·simp only[h,if_false] <;> lia
 ·cases hi with
  |none=>simp[sliceBounds,HT.sIx]
  |some i=>
   simp only[sliceBounds,HT.sIx,Option.getD_none,show(1:Int) > 0 by decide,if_true]
   by_cases h:i<0
   ·simp only[h,if_true] <;> lia
   ·simp only[h,if_false] <;> lia
theorem zcz(its:List Value)(lo hi:Option Int):slicePick its.toArray lo hi none=((its.drop (HT.sIx its.length 0 lo)).take (HT.sIx its.length its.length hi-HT.sIx its.length 0 lo)).toArray:=by
 obtain⟨h1,h2,h3⟩:=zd9 lo hi its.toArray.size;unfold slicePick;rw[h1,h2,h3];simp only[sliceRange_one,pick_run,List.size_toArray] <;> rfl
def zv5(K:PySem.W.Frag):V->Option Int->Option Int->Hp->VK->Prop:=λx lo hi H Q=>∃a xs,x=.ref a/\SqL K H a xs/\∀p,H p=none->Q (.ref p) (upd H p (.lst (zcy xs lo hi)))
theorem zi2:SlR X (zv5 X.K):=by
 intro pins s σ H x v vl vu lo hi sl Q I rx hs pl pu h;obtain⟨a,xs,rfl,hx,q⟩:=h
 cases rx;obtain⟨its,r,ht,hz⟩:=I.list hx;have hlen:=r.length;refine⟨"list",_,slot_list_getitem.lookup,ht.isList.typeIs,?_⟩;refine wpAny_getItem_list_slice ht.isList hs pl pu .none (by simp) ?_ (by rw[List.size_toArray] <;> lia);rw[zcz,<-hlen];refine⟨.ref s.heap.objs.size,_,I.laid (t':=s.toks) (o:=.lst (zcy xs lo hi)) (λb ob q=>Heap.get?_push_of_some _ q) (Nat.le_refl _) ?_,rfl,q _ (I.hok.fresh (Nat.le_refl _))⟩;exact⟨Nat.le_trans (za8 xs lo hi) hz,_,0,(r.drop (HT.sIx xs.length 0 lo)).take (HT.sIx xs.length xs.length hi-HT.sIx xs.length 0 lo),Heap.get?_push_size _ rfl⟩
theorem zea:wj X (.builtin "len") (λxs H Q=>∃p ys,xs = [.ref p]/\(SqL X.K H p ys\/SqT X.K H p ys)/\Q (.int ys.length) H):=by
 intro pins s σ H xs us Q I r h;obtain⟨p,ys,rfl,hq,q⟩:=h;obtain⟨u,rfl,rx⟩:=zfg r
 cases rx;have hn:=jd;rcases hq with hq|hq
 ·obtain⟨its,r',pl,hz⟩:=I.list hq;have hlen:=r'.length;exact Calls.call_len_list pl.isList (by simp only[List.size_toArray] <;> lia) ⟨.int ys.length,H,I.tok _,⟨s.toks+1,by rw[List.size_toArray,hlen]⟩,q⟩
 ·obtain⟨its,r',pl,hz⟩:=I.tuple hq;have hlen:=r'.length;exact len_tuple pl (by simp only[List.size_toArray] <;> lia) ⟨.int ys.length,H,I.tok _,⟨s.toks+1,by rw[List.size_toArray,hlen]⟩,q⟩
theorem zc0:wj X (.type "tuple") (λxs H Q=>∃p ys,xs = [.ref p]/\((SqL X.K H p ys/\∀l,H l=none->Q (.ref l) (upd H l (.tup ys)))\/(SqT X.K H p ys/\Q (.ref p) H))):=by
 intro pins s σ H xs us Q I r h;obtain⟨p,ys,rfl,h⟩:=h;obtain⟨u,rfl,rx⟩:=zfg r
 cases rx;rcases h with⟨hq,q⟩ |⟨hq,q⟩
 ·obtain⟨its,r',pl,hz⟩:=I.list hq;have hlen:=r'.length;refine call_tuple_list pl.isList (λh' kp=>?_) (by simp only[List.size_toArray] <;> lia);have I1:Inv X pins σ H { s with heap:=h' }:=I.kept (t':=s.toks) kp
  have I2:Inv X pins σ (upd H h'.objs.size (.tup ys)) { s with heap:=h'.push { cls:=.type "tuple",data:=.seq its.toArray } } :=
   I1.laid (t':=s.toks) (λb o e=>Heap.get?_push_of_some _ e) (Nat.le_refl _) (show ObjOk X.prog X.w _ _ _ (.tup ys) from⟨hz,its,r',TupD.new _ _⟩)
  exact⟨.ref h'.objs.size,_,I2,rfl,q _ (I1.hok.fresh (Nat.le_refl _))⟩
 ·obtain⟨its,r',pl,hz⟩:=I.tuple hq;exact call_tuple_same pl ⟨.ref p,H,I,rfl,q⟩
def tyV(K:PySem.W.Frag)(T:String)(x:V)(H:Hp):Prop:=match x with
 |.str _=>T = "str"
 |.int _=>T = "int"
 |.ref p=>(T = "list" /\ ∃xs,SqL K H p xs)\/(T = "tuple" /\ ∃xs,SqT K H p xs) \/
   (T = "dict" /\((∃kvs,H p=some (.dK kvs))\/∃kvs,H p=some (.dT kvs)))\/(T = "set" /\ ∃S n,H p=some (.set S n))
 |_=>False
theorem zrz{pins:List (Addr×Obj)}{σ:St}{H:Hp}{s:Shared}{T:String}{x:V}{v:Value}(I:Inv X pins σ H s)(r:RelV x v)(ty:tyV X.K T x H):
  s.TypeIs v T/\∀a,v=.ref a->∃ob,s.heap.get? a=some ob/\ob.dict=none:=by
 cases x with
 |str z=>
  obtain⟨t,rfl⟩:=r
  cases (show T = "str" from ty);exact⟨typeIs_str s z t,λ_ e=>nomatch e⟩
 |int i=>
  obtain⟨t,rfl⟩:=r
  cases (show T = "int" from ty);exact⟨typeIs_int s i t,λ_ e=>nomatch e⟩
 |ref p=>
  cases r;rcases ty with⟨rfl,xs,hq⟩ |⟨rfl,xs,hq⟩ |⟨rfl,hk⟩ |⟨rfl,S,n,hk⟩
  ·obtain⟨its,_,pl,_⟩:=I.list hq;refine⟨pl.isList.typeIs,λa e=>?_⟩
   cases e;obtain⟨o,n,e,c,hd,_⟩:=pl;exact⟨o,e,hd⟩
  ·obtain⟨its,_,pl,_⟩:=I.tupleD hq;refine⟨pl.isTup.typeIs,λa e=>?_⟩
   cases e;obtain⟨o,e,_,_,hd⟩:=pl;exact⟨o,e,hd⟩
  ·have z:∃o,s.heap.get? p=some o/\o.ExactDict:=by
    rcases hk with⟨kvs,hk⟩ |⟨kvs,hk⟩
    ·obtain⟨_,_,_,_,o,_,_,e,ex,_⟩:=I.hok p _ hk;exact⟨o,e,ex⟩
    ·obtain⟨_,_,_,_,o,_,_,e,ex,_⟩:=I.hok p _ hk;exact⟨o,e,ex⟩
   obtain⟨o,e,ex⟩:=z;refine⟨⟨o,e,ex.1⟩,λa e2=>?_⟩
   cases e2;exact⟨o,e,ex.2.1⟩
  ·obtain⟨o,_,_,_,e,ex,_⟩:=I.hok p _ hk;refine⟨⟨o,e,ex.1⟩,λa e2=>?_⟩
   cases e2;exact⟨o,e,ex.2.1⟩
 |_=>exact False.elim ty
def tBM(K:PySem.W.Frag)(T:String)(r:V->List V->Hp->VK->Prop)(to:TE)(t:TA):TE:=λσ H Q=>to σ H λx H1=>tyV K T x H1/\t σ H1 λxs H2=>r x xs H2 Q
variable {o e:Expr}{es:List Expr}{to:TE}{t:TA}{name:Str}{apos cpos:Pos}{T id:String}{r:V->List V->Hp->VK->Prop}
theorem zlu(pa:PlainAttrs T)(slot:Slot T name id)(hty:typeOf (.builtin id)=pure (.type "method_descriptor"))(hm:MtR X id r)(ho:PE X o to)(ha:PA X (e::es) t)
  (hbase:attributeBase o name X.env (eval o X.env)=eval o X.env:=by rfl)
  (hfew:((backTo cpos (starEach (e::es) X.env)).all (λx=>!x.1) && (backToKw cpos (keywordEach [] X.env)).all (λx=>x.1.isSome)
   && decide ((e::es).length+([]:List Keyword).length+(if ([]:List Keyword).isEmpty then 0 else 1)<30))=true:=by rfl)
  (hline:(apos.endLine == cpos.line)=true:=by rfl) (hs:starEach (e::es) X.env=(false,eval e X.env)::starEach es X.env:=by rfl) (hplain:(backTo cpos (starEach es X.env)).any (·.1)=false:=by rfl) :
  PE X (.Call (.Attribute o name apos) (e::es) [] cpos) (tBM X.K T r to t):=by
 intro pins s σ H Q I h;refine wpAny_Call_method_late hbase hfew hline rfl (thn (ho pins s σ H _ I h) λv s1 ⟨x,H1,I1,r1,ty,q1⟩=>?_);obtain⟨h1,h2⟩:=zrz I1 r1 ty;refine⟨T,id,pa,slot,hty,h1,h2,?_⟩;have hA:=ha cpos pins s1 σ H1 _ I1 q1;rw[hs]at hA ⊢;refine Calls.callWith_builtin (by show(false ||(backTo cpos (starEach es X.env)).any (·.1))=false;rw[hplain] <;> rfl) (Calls.evalArgs_plain ?_);exact thn hA λus s2 ⟨vs,H2,I2,r2,q2⟩=>hm pins s2 σ H2 x vs v us Q I2 r1 r2 q2
end
def MtM(X:Cx)(id:String)(r:V->List V->Hp->VK->Prop):Prop :=
 ∀(pins:List (Addr×Obj)) (s:Shared) (σ:St) (H:Hp) (x:V) (xs:List V) (v:Value) (us:List Value) (Q:VK),Inv X pins σ H s->RelV x v->Vals xs us->r x xs H Q ->
  wpAny (model X.prog X.w) X.A (call (.builtin id) (v::us)) (EP X pins σ Q) X.xe s
theorem Vals.one{x:V}{us:List Value}(h:Vals [x] us):∃u,us = [u]/\RelV x u:=by
 cases h with
 |cons r h=>cases h;exact⟨_,rfl,r⟩
theorem Vals.two{x y:V}{us:List Value}(h:Vals [x,y] us):∃u v,us = [u,v]/\RelV x u/\RelV y v:=by
 cases h with
 |cons r h=>obtain⟨v,rfl,q⟩:=Vals.one h;exact⟨_,v,rfl,r,q⟩
theorem Vals.rep{xs:List V}{us:List Value}(h:Vals xs us):∀k:Nat,Vals (List.replicate k xs).flatten (List.replicate k us).flatten
 |0=>.nil
 |k+1=>by
  rw[List.replicate_succ,List.replicate_succ,List.flatten_cons,List.flatten_cons];exact Vals.append h (Vals.rep h k)
theorem zdi(its:List Value):∀(k:Nat) (acc:List Value),
  List.foldl (λx1 x2=>x1++x2) acc.toArray (List.replicate k its.toArray)=(acc++(List.replicate k its).flatten).toArray
 |0,acc=>by simp
 |k+1,acc=>by
  have e:acc.toArray++its.toArray=(acc++its).toArray:=by simp
  have e2:(acc++its)++(List.replicate k its).flatten=acc++(List.replicate (k+1) its).flatten:=by
   rw[List.replicate_succ,List.flatten_cons,List.append_assoc]
  rw[<-e2,<-zdi its k (acc++its),<-e,List.replicate_succ,List.foldl_cons]
section
variable {X:Cx}{pins:List (Addr×Obj)}{σ:St}{H:Hp}{s:Shared}{l b:Addr}{xs ys zs:List V}
theorem Inv.lset{its its':List Value}{n:Nat}{f:Array Value->Array Value}{t':Nat}(I:Inv X pins σ H s)(hH:H l=some (.lst xs))
  (e:s.heap.get? l=some { cls:=.type "list",data:=.seq its.toArray n }) (hf:f its.toArray=its'.toArray) (hv:Vals ys its') (hz:ys.length<=sizeLine) :
  Inv X pins σ (upd H l (.lst ys)) { s with heap:=s.heap.update l (Obj.mapSeq f),toks:=t' }:=by
 have q:=PySem.IsL.update e f;rw[hf]at q;refine I.write (x:=l) (e:=l) (by rw[hH];exact trivial) (.inl rfl) (λb' u hb hu=>(Heap.get?_update_other s.heap (Obj.mapSeq f) (Ne.symm hb)).trans hu) ⟨_,q⟩ ?_;exact⟨hz,its',_,hv,q⟩
theorem Inv.lnew{its:List Value}{t':Nat}(I:Inv X pins σ H s)(hv:Vals ys its)(hz:ys.length<=sizeLine):
  Inv X pins σ (upd H s.heap.objs.size (.lst ys)) { s with heap:=s.heap.push { cls:=.type "list",data:=.seq its.toArray },toks:=t' } :=
 I.laid (λ_ _ q=>Heap.get?_push_of_some _ q) (Nat.le_refl _) ⟨hz,its,0,hv,Heap.get?_push_size _ rfl⟩
theorem Inv.fresh(I:Inv X pins σ H s):H s.heap.objs.size=none:=I.hok.fresh (Nat.le_refl _)
theorem Inv.lstM(I:Inv X pins σ H s)(hH:H l=some (.lst xs)):xs.length<=sizeLine/\∃(its:List Value) (n:Nat),Vals xs its/\xs.length=its.length/\s.heap.get? l=some { cls:=.type "list",data:=.seq its.toArray n }:=by
 obtain⟨z,its,n,r,e⟩:=I.hok l _ hH;exact⟨z,its,n,r,r.length,e⟩
theorem zlv{n:Nat}(h:n<=sizeLine):Builtin.List.listTooLong n=false:=by
 unfold Builtin.List.listTooLong;exact decide_eq_false (by lia)
end
section
variable {X:Cx}
def zo3:V->List V->Hp->VK->Prop:=λx vs H Q=>∃l xs y,x=.ref l/\vs = [y]/\H l=some (.lst xs)/\xs.length<sizeLine/\Q .non (upd H l (.lst (xs ++ [y])))
theorem qy:MtM X "list.append" zo3:=by
 intro pins s σ H x vs v us Q I rx rv h;obtain⟨l,xs,y,rfl,rfl,hH,hz,q⟩:=h
 cases rx;obtain⟨u,rfl,ru⟩:=rv.one;obtain⟨z,its,n,r,hl,e⟩:=I.lstM hH;refine call_meets F.slot_list_append ⟨_,e,rfl⟩ F.entry_list_append (F.args_list_append_2 _ _) (PySem.list_append l its.toArray n u (by rw[List.size_toArray];lia)) ⟨e,?_⟩;refine⟨.non,_,I.lset (its':=its ++ [u]) hH e (by simp) (r.append (.cons ru .nil)) ?_,rfl,q⟩;rw[List.length_append,List.length_singleton];lia
theorem zo4{α:Type}(xs:List α)(k:Nat):(List.replicate k xs).flatten.length=k * xs.length:=by
 induction k with
 |zero=>simp
 |succ k ih=>rw[List.replicate_succ,List.flatten_cons,List.length_append,ih,Nat.succ_mul,Nat.add_comm]
end
end L2
namespace Att
open PySem PySem.W PySem.Calls PyProof.Rows
theorem zbh{P:Params}{h:Heap}:∀(ns:List Int) (vs:List Value),WellAll P h vs (ns.map WData.int)->IntsAre vs ns:=by
 intro ns
 induction ns with
 |nil=>
  intro vs w;rw[List.map_nil]at w
  cases w;exact .nil
 |cons n ns ih=>
  intro vs w;rw[List.map_cons]at w
  cases w with
  |cons a b=>
   cases a;exact .cons _ _ (ih _ b)
theorem zkl{l:OpenLaw}{n:Nat}(hn:l.most=some n){P:Params}{h:Heap}{args:List WData}{vals:List Value}
  (hpre:l.row.toRowW.claim.pre args=true) (hwl:WellAll P h vals args) :
  ∃a vs ns,vals = [Value.ref a]/\args = [WData.list (ns.map WData.int)]/\h.get? a=some { cls:=.type "list",data:=.seq vs.toArray }/\IntsAre vs ns/\ns.length<=n:=by
 have hsh:WShape.hasAll [] args [.list .int]=true:=(pre_splitW hpre).1;have hc:l.pre.holds [] { args:=args }=true:=(pre_splitW hpre).2;obtain⟨d,r,rfl,h1,h2⟩:=hasAllW_cons hsh;obtain rfl:=hasAllW_nil h2;obtain⟨xs,rfl,h3⟩:=hasW_list h1;obtain⟨ns,rfl⟩:=items_int h3;have hlen:ns.length<=n:=by
  unfold OpenLaw.pre at hc;have h4:(WTm.not (.lt (.lit (.int (n:Int))) (.len (.arg 0)))).holds [] { args:=[.list (ns.map .int)] }=true:=by
   have h4:=(holds_andW hc).1;rw[hn]at h4;exact h4
  have h5:=condW_of h4 (w_not (w_lt w_lit (w_len_list (w_arg rfl))));rw[List.length_map]at h5;refine Nat.le_of_not_lt λq=>?_;have q':(n:Int)<((ns.length:Nat):Int):=by omega
  first
   |(rw[decide_eq_true q']at h5;exact absurd h5 (by decide))
   |(simp at h5;omega)
 cases hwl with
 |cons w1 w2=>
  cases w2
  cases w1 with
  |list ho hall=>exact⟨_,_,ns,rfl,rfl,ho,zbh ns _ hall,hlen⟩
theorem zkm(l:OpenLaw)(args:List WData):l.row.toRowW.claim.post args (.bool true) args=true :=
 postW_of (r:=l.row.toRowW) (X:=(true == true))
  (show WShape.has [] (.bool true) .bool=true by first|rfl|decide|simp[WShape.has,WShape.arms,WShape.armsAll])
  (show(WTm.eq .res (.lit (.bool true))).value [] { args:=args,res:=some (.bool true),after:=args }=some (.bool (true == true)) from w_eq_bool (w_res rfl) w_lit) rfl
theorem attach_call{l:OpenLaw}{n:Nat}{q:Program}{loose:List Str}{XP:(Str->Option Value)->Heap->Prop}{YP:World->Heap->Prop}{d:DefRec}
  (hn:l.most=some n) (hdf:d.params.defaults = [])
  (call:∀(w:World) (s₀ s₁:Shared) (mg mb:Str->Option Value) (fa:Addr) (o:Obj) (pm cd doc:Value) (a:Addr) (vs:List Value) (ns:List Int),
   Ground q loose [] XP w s₀ mg mb s₁.heap->YP w s₁.heap ->
   s₁.heap.get? fa=some o->o.data=.func (docDef d.name d.params d.body d.scope pm cd doc)->s₁.heap.CodeRec cd d.name->mg d.name=some (.ref fa) ->
   s₁.heap.get? a=some { cls:=.type "list",data:=.seq vs.toArray }->IntsAre vs ns->ns.length<=n->s₁.gens = #[] ->
   codeAny (model l.prog w) callerA (.call (.ref fa) ⟨[.ref a],[]⟩) (λr s'=>r=.ok (.ret (.bool true))/\OldK s₁.heap s'.heap/\s'.os=s₁.os/\AllBare s'.gens) s₁) :
  WalkO q loose XP YP l.row.toRowW d [] (λf vs=>PySem.call f vs):=by
 intro w s₀ s₁ mg mb G Y fa o pm cd doc dV kV ho hd hcd hD hmg hg args vals as hpre hlay hrd hwl hlo;obtain rfl:dV=.none:=Dflts.none hD hdf;obtain rfl:kV=.none:=Dflts.noKw hD;obtain⟨a,vs,ns,rfl,rfl,hobj,hints,hlen⟩:=zkl hn hpre hwl;refine enter_call (codeAny_mono (call w s₀ s₁ mg mb fa o pm cd doc a vs ns G Y ho (fd_plain hd) hcd hmg hobj hints hlen hg) λr s' hq=>?_);obtain⟨rfl,h2,h3,h4⟩:=hq;exact⟨.inl ⟨.bool true,.bool true,[],rfl,λ_=>rfl,.bool true,zkm l _,λ_=>⟨List.Pairwise.nil,λ_ hm=>(nomatch hm)⟩⟩,h2,h3,h4⟩
end Att
namespace L2
open PySem PySem.Spec PyProof.Rows
theorem zdj:∀{vs:List Value}{ns:List Int},IntsAre vs ns->Vals (ns.map V.int) vs
 |_,_,.nil=>.nil
 |_,_,.cons n t h=>.cons ⟨t,rfl⟩ (zdj h)
def zr0(H:Hp):Prop:=∀b,H b=none\/∃o xs,H b=some (.frz o (.lst xs))
theorem zlw{P:Program}{w:World}{K:PySem.W.Frag}{mg mb:Str->Option Value}{CX:CXT}{k:Nat}{fa a:Addr}{fd:FuncData}{x:Str}{sp:Sp}{s₁:Shared}{vs:List Value}{ns:List Int}
  (KX:K.In s₁.heap) (hns:s₁.heap.Ns mainGlobals mg) (hb:s₁.heap.Ns builtinsNs mb) (hbb:∀x:Str,x ≠ "__name__" -> mb x=bootBuiltins x) (hlim:s₁.heap.NoLimit) (hg:s₁.gens = #[])
  (ha:s₁.heap.get? a=some { cls:=.type "list",data:=.seq vs.toArray }) (hi:IntsAre vs ns) (hl:ns.length<=sizeLine) (hr:Room k callerA)
  (F:∀base:Heap,K.In base->base.Ns mainGlobals mg->FnOk P w K mg base CX k fa fd [x] sp) (hbind:∀(s:Shared) (u:Value),BindsTo s fd ⟨[u],[]⟩ [(x,u)])
  (hsp:∀H:Hp,zr0 H->SqL K H a (ns.map V.int)->sp [.ref a] H (λv _=>v=.bl true) λ_ _ _=>False)
  (hCX:∀H e s',CX [] H s₁ (λ_ _ _=>False) e s'->False) :
  codeAny (model P w) callerA (.call (.ref fa) ⟨[.ref a],[]⟩) (λr s'=>r=.ok (.ret (.bool true))/\OldK s₁.heap s'.heap/\s'.os=s₁.os/\AllBare s'.gens) s₁:=by
 have rv:=zdj hi;have lenV:=hi.length
 -- from an abstract heap in which nothing but the script may be tracked
 have core:∀H:Hp,zr0 H->SqL K H a (ns.map V.int)->HOk P w H s₁.heap->(∀b,H b≠none->b=a)->(H a≠none->K.lookup a=none) ->
   codeAny (model P w) callerA (.call (.ref fa) ⟨[.ref a],[]⟩) (λr s'=>r=.ok (.ret (.bool true))/\OldK s₁.heap s'.heap/\s'.os=s₁.os/\AllBare s'.gens) s₁:=by
  intro H hO hS hok hA hK;have base_of:∀{b:Addr}{o:Obj},s₁.heap.get? b=some o->H b=none->(zd5 s₁.heap H).get? b=some o:=λe n=>zlk e n;have noA:∀{b:Addr}{o:Obj}{es:Array DictEntry}{ep:Nat},s₁.heap.get? b=some o->o.data=.dict es ep->H b=none:=λ{b o es ep} e d=>by
   cases q:H b with
   |none=>rfl
   |some u=>
    have e':b=a:=hA b (by rw[q];simp);subst e';rw[ha]at e;cases e;have d':Data.seq vs.toArray _=Data.dict es ep:=d
    cases d'
  have nsK:∀{b:Addr}{m:Str->Option Value},s₁.heap.Ns b m->(zd5 s₁.heap H).Ns b m:=λ{b m} ⟨o,es,ep,e,d,r⟩=>⟨o,es,ep,base_of e (noA e d),d,r⟩
  have hKb:K.In (zd5 s₁.heap H):=λb o e=>base_of (KX b o e) (by
   cases q:H b with
   |none=>rfl
   |some u=>
    have e':b=a:=hA b (by rw[q];simp);subst e';rw[hK (by rw[q];simp)]at e;cases e)
  have hM:Mod K mg (zd5 s₁.heap H):=⟨hKb,nsK hns,⟨mb,nsK hb,hbb⟩,let ⟨mc,h1,h2⟩:=hlim;⟨mc,nsK h1,h2⟩⟩
  have e0:zls P w K mg (zd5 s₁.heap H) callerA [] s₁ H:=⟨rfl,hM,λb o e=>zos e,Nat.le_of_eq (zkb _ _),trivial,λb hb=>absurd (show b∈([]:List Addr) from hb) (by simp),hok,.of_eq hg⟩
  refine codeAny_mono ((F _ hKb (nsK hns)).run callerA [] s₁ H ⟨[.ref a],[]⟩ [.ref a] [.ref a] _ _ hr e0 (hbind s₁ (.ref a)) (.cons rfl .nil) (hsp H hO hS)) λr s' h=>?_
  cases r with
  |error e=>exact(hCX H e s' h).elim
  |ok fl=>
   cases fl with
   |next=>exact False.elim h
   |brk=>exact False.elim h
   |cont=>exact False.elim h
   |ret u=>
    obtain⟨v,H',os,bare,un,hok',r',q⟩:=h;have q':v=.bl true:=q;subst q';obtain rfl:u=Value.bool true:=r';refine⟨rfl,OldK.of_keep λb o e=>?_,os,bare⟩
    cases q:H b with
    |none=>exact un.keep b o e q (by intro z;exact absurd (show b∈([]:List Addr) from z) (by simp)) (by simp)
    |some u=>
     rcases hO b with z |⟨ob,xs,z⟩
     ·rw[q]at z;cases z
     ·have z2:=un.frzs b ob _ z;obtain⟨e1,_⟩:=hok b _ z;obtain⟨e2,_⟩:=hok' b _ z2;rw[e]at e1;cases e1;exact e2
 cases hk:K.lookup a with
 |some o=>
  -- the script is one of the module's own objects
  have e:=KX a o hk;rw[ha]at e
  cases e;refine core (λ_=>none) (λ_=>.inl rfl) (.inr ⟨_,vs.toArray,_,hk,rfl,rfl,rfl,by rw[List.size_toArray,lenV];exact hl,by simpa using rv⟩) (λb u z=>by have z':(none:Option HO)=some u:=z;cases z') (λb z=>absurd rfl z) λz=>absurd rfl z
 |none=>
  refine core (λb=>if b=a then some (.frz { cls:=.type "list",data:=.seq vs.toArray } (.lst (ns.map V.int))) else none) (λb=>?_) (.inl (.inr ⟨{ cls:=.type "list",data:=.seq vs.toArray },if_pos rfl⟩)) (λb u z=>?_) (λb z=>?_) λ_=>hk
  ·by_cases hb:b=a
   ·exact .inr ⟨_,_,if_pos hb⟩
   ·exact .inl (if_neg hb)
  ·by_cases hb:b=a
   ·have z':=(if_pos hb).symm.trans z
    cases z';subst hb;exact⟨ha,by rw[List.length_map];exact hl,vs,_,rv,ha⟩
   ·have z':=(if_neg hb).symm.trans z
    cases z'
  ·by_cases hb:b=a
   ·exact hb
   ·exact absurd (if_neg hb) z
theorem walk_of{l:PySem.W.OpenLaw}{n k:Nat}{q:Program}{loose:List Str}{XP:(Str->Option Value)->Heap->Prop}{YP:World->Heap->Prop}{d:DefRec}{K:Params->PySem.W.Frag}{CX:World->CXT}{sp:World->Sp}{x:Str}
  (hn:l.most=some n) (hn2:n<=sizeLine) (hdf:d.params.defaults = []) (hr:Room k callerA)
  (hY:∀(w:World) (h:Heap),YP w h->(K w.params).In h)
  (F:∀(w:World) (mg:Str->Option Value) (fa:Addr) (h:Heap),(K w.params).In h->h.Ns mainGlobals mg->mg d.name=some (.ref fa) ->
   ∃fd:FuncData,(∀(s:Shared) (u:Value),BindsTo s fd ⟨[u],[]⟩ [(x,u)]) /\
    ∀base:Heap,(K w.params).In base->base.Ns mainGlobals mg->FnOk l.prog w (K w.params) mg base (CX w) k fa fd [x] (sp w))
  (hsp:∀(w:World) (H:Hp) (a:Addr) (ns:List Int),ns.length<=n->zr0 H->SqL (K w.params) H a (ns.map V.int)->sp w [.ref a] H (λv _=>v=.bl true) λ_ _ _=>False)
  (hCX:∀(w:World) (H:Hp) (s:Shared) (e:Value) (s':Shared),CX w [] H s (λ_ _ _=>False) e s'->False) :
  PySem.W.WalkO q loose XP YP l.row.toRowW d [] (λf vs=>PySem.call f vs):=by
 refine Att.attach_call hn hdf λw s₀ s₁ mg mb fa o pm cd doc a vs ns G Y ho hd hcd hmg hobj hints hlen hg=>?_;have KX:=hY w _ Y;obtain⟨fd,hb,hF⟩:=F w mg fa _ KX G.T.g hmg;exact zlw KX G.T.g G.T.b G.T.builtins G.T.nolimit hg hobj hints (Nat.le_trans hlen hn2) hr hF hb (λH hO hS=>hsp w H a ns hlen hO hS) λH e s'=>hCX w H s₁ e s'
def vc(s:Stmt):Arguments:=match s with
 |.FunctionDef _ a _ _ _ _ _ _ _ _=>a
 |_=>{ posonlyargs:=[],args:=[],vararg:=none,kwonlyargs:=[],kw_defaults:=[],kwarg:=none,defaults:=[] }
def xv(s:Stmt):List Stmt:=match s with
 |.FunctionDef _ _ b _ _ _ _ _ _ _=>b
 |_=>[]
def zl(s:Stmt):Scope:=match s with
 |.FunctionDef _ _ _ _ _ _ sc _ _ _=>sc
 |_=>{ kind:=.function,names:=[],isGenerator:=false,isCoroutine:=false }
abbrev CX0:CXT:=λ_ _ _ _ _ _=>False
abbrev E0:XK:=λ_ _ _=>False
theorem zun{X:Cx}:zhc CX0 X E0:=λ_ _ _ _ _ _ _ h=>h.elim
structure Fun(K:PySem.W.Frag)(x qual:Str)(st:Stmt)(f:Addr)(fd:FuncData):Prop where
 ex:∃(oc:Value) (od:Option Addr) (kV doc pm:Value) (an:Option Addr) (cdv ct:Value) (osl:Array (Option Value)),
  fd=PySem.W.fnOf x qual (vc st) (xv st) (zl st) .none kV doc pm an cdv ct/\K.lookup f=some ⟨oc,od,.func fd,osl⟩/\PySem.W.codeIn K cdv qual=true
 kp:PySem.W.keepIn K (.ref f)=true
section
variable {P:Program}{w:World}{K:PySem.W.Frag}{mg:Str->Option Value}{base:Heap}
theorem Fun.ok{x qual:Str}{st:Stmt}{f:Addr}{fd:FuncData}{N ps:List Str}{k:Nat}{sp:Sp}(F:Fun K x qual st f fd)(S:z4 N ps (zl st))(len:∀vs H Q E,sp vs H Q E->vs.length=ps.length)
  (hbody:∀(cdv:Value) (A:Around) (outer:List Env) (s:Shared) (H:Hp) (vs:List V) (Q:VK) (E:XK),Room k (A.deeper (envOfC qual (zl st) s.heap.objs.size f cdv))->sp vs H Q E ->
   ∃t,PSs (zfh CX0 P w K mg base N qual (zl st) f cdv A outer s H E).nox (xv st) t/\t { nx:=λ_ H'=>Q .non H',rt:=Q } (vo N vs) H):FnOk P w K mg base CX0 (k+1) f fd ps sp:=by
 obtain⟨oc,od,kV,doc,pm,an,cdv,ct,osl,rfl,lk,hcd⟩:=F.ex;refine zuh lk hcd S len λA outer s H vs Q E hr hsp=>?_;obtain⟨t,h,q⟩:=hbody cdv A outer s H vs Q E hr hsp;exact⟨t,h.nox,q⟩
theorem Fun.binds{x qual:Str}{st:Stmt}{f:Addr}{fd:FuncData}{ps:List Str}(F:Fun K x qual st f fd)
  (h:∀(kV doc pm:Value) (an:Option Addr) (cdv ct:Value) (us:List Value),us.length=ps.length->bindArgs (PySem.W.fnOf x qual (vc st) (xv st) (zl st) .none kV doc pm an cdv ct) ⟨us,[]⟩=pure (ps.zip us)):Binds K fd ps []:=by
 obtain⟨oc,od,kV,doc,pm,an,cdv,ct,osl,rfl,lk,hcd⟩:=F.ex;exact .all (h kV doc pm an cdv ct)
theorem zr5{x qual:Str}{st:Stmt}{f:Addr}{oc:Value}{od an:Option Addr}{osl:Array (Option Value)}{kV doc pm cdv ct:Value}(l:K.lookup f=some ⟨oc,od,.func (PySem.W.fnOf x qual (vc st) (xv st) (zl st) .none kV doc pm an cdv ct),osl⟩)
  (c:PySem.W.codeIn K cdv qual=true) (k:PySem.W.keepIn K (.ref f)=true):Fun K x qual st f (PySem.W.fnOf x qual (vc st) (xv st) (zl st) .none kV doc pm an cdv ct):=⟨⟨oc,od,kV,doc,pm,an,cdv,ct,osl,rfl,l,c⟩,k⟩
end
section
variable {X:Cx}
theorem pv(i:Nat){x:Str}{pos:Pos}(hN:X.N[i]?=some x:=by rfl)(hv:Vis X.env.scope x:=by first|exact Or.inl rfl|exact Or.inr (Or.inl rfl)|exact Or.inr (Or.inr rfl))(hd:(x ==("__debug__" : Str))=false:=by decide)
  (hcd:(x ==("__classdict__" : Str))=false:=by decide):PE X (.Name x pos) (ztz i):=y4 hN hv hd hcd
end
theorem zv6{A B:Prop}(h:B):if false=true then A else B:=by
 rw[if_neg Bool.false_ne_true];exact h
theorem zuo{c A B:Prop}[Decidable c](h1:c->A)(h2:¬ c->B):if c then A else B:=by
 by_cases h:c
 ·rw[if_pos h];exact h1 h
 ·rw[if_neg h];exact h2 h
def Same(H H':Hp):Prop:=∀b o,H b=some o->H' b=some o
theorem Same.refl(H:Hp):Same H H:=λ_ _ h=>h
theorem Same.trans{H H1 H2:Hp}(a:Same H H1)(b:Same H1 H2):Same H H2:=λc o h=>b c o (a c o h)
theorem Same.free{H H':Hp}(e:Same H H'){l:Addr}(h:H' l=Option.none):H l=Option.none:=by
 cases q:H l with
 |none=>rfl
 |some o=>
  rw[e l o q]at h
  cases h
theorem Same.seq{K:PySem.W.Frag}{H H':Hp}{a:Addr}{xs:List V}(e:Same H H')(h:SqL K H a xs):SqL K H' a xs:=by
 rcases h with(h |⟨o,h⟩)|h
 ·exact .inl (.inl (e _ _ h))
 ·exact .inl (.inr ⟨o,e _ _ h⟩)
 ·exact .inr h
theorem gg{P:Prop}(h:∀G:Prop,(P->G)->G):P:=h P id
theorem zeb{prog:Program}{w:World}{A:Around}{R:Result->Shared->Prop}{s:Shared}{elt target iter:Expr}{ifs:List Expr}{scope:Scope}{pos:Pos}{it acc:Value}{env:Env}(I:Nat->Shared->Prop)
  (turn:∀n s,I n s->wpAny (model prog w) A (pyNext it) (λr s1=>match r with
   |none=>R (.ok .next) s1
   |some v=>wpAny (model prog w) A (letOwnedTupleGo target it v) (λ_ s1'=>wpAny (model prog w) A (assign target env v) (λ_ s2=>
     wpAny (model prog w) A (forIn ifs true λc r=>if r=true then do let ok <-isTrue c env (eval c env);pure (ForInStep.yield ok) else pure (ForInStep.yield r)) (λok s3=>
      if ok=true then wpAny (model prog w) A (eval elt env) (λx s4=>
       wpAny (model prog w) A (call (.builtin "list.append") [acc,x]) (λ_ s5=>∃m,m<n/\I m s5) (λ_ _=>False) s4) (λ_ _=>False) s3
      else ∃m,m<n/\I m s3) (λ_ _=>False) s2) (λ_ _=>False) s1') (λ_ _=>False) s1) (λ_ _=>False) s)
  (n:Nat) (h:I n s) :
  codeAny (model prog w) A (.compLoop (.ListComp elt [⟨target,iter,ifs,0⟩] scope pos) 0 it acc env) R s:=by
 refine codeAny_loop rfl I (λn s hI=>?_) n h;show wpAny _ A ((compTurn (.ListComp elt [⟨target,iter,ifs,0⟩] scope pos) 0 it acc env).onRaise (λx=>do noteFrame x env;theTreesLotGoes x)) _ _ s;refine wpAny_noted ?_;rw[compTurn_list];refine wpAny_bind (wpAny_standAt (wpAny_bind (wpAny_mono (turn n s hI) (λr s₁ h₁=>?_) λ_ _ h'=>h'.elim)))
 cases r with
 |none=>exact wpAny_pure h₁
 |some v=>
  refine wpAny_bind (wpAny_mono h₁ (λ_ s₁' h₁'=>?_) λ_ _ h'=>h'.elim);refine wpAny_bind (wpAny_mono h₁' (λ_ s₂ h₂=>wpAny_bind (wpAny_mono h₂ (λok s₃ h₃=>?_) λ_ _ h'=>h'.elim)) λ_ _ h'=>h'.elim)
  cases ok with
  |false=>exact wpAny_pure ⟨rfl,h₃⟩
  |true=>
   exact wpAny_bind (wpAny_bind (wpAny_mono h₃ (λx s₄ h₄=>wpAny_bind (wpAny_mono h₄ (λ_ s₅ h₅=>wpAny_pure (wpAny_pure ⟨rfl,h₅⟩)) λ_ _ h'=>h'.elim)) λ_ _ h'=>h'.elim))
inductive Capt(X:Cx)(scope:Scope)(cl:List (Str×Addr)):List Str->List Nat->Prop
 |nil:Capt X scope cl [] []
 |cons {x:Str}{j:Nat}{xs:List Str}{js:List Nat} (h1:X.N[j]?=some x) (h2:X.env.kindOf x=some .cell\/X.env.kindOf x=some .free) (h3:cl.lookup x=X.env.cells.lookup x)
  (h4:(relabel scope X.env).names.lookup x=some .cell\/(relabel scope X.env).names.lookup x=some .free) (t:Capt X scope cl xs js):Capt X scope cl (x::xs) (j::js)
theorem Capt.get{X:Cx}{scope:Scope}{cl:List (Str×Addr)}:∀{xs:List Str}{js:List Nat},Capt X scope cl xs js->xs.length=js.length/\∀(i:Nat) (x:Str) (j:Nat),xs[i]?=some x->js[i]?=some j->X.N[j]?=some x/\(X.env.kindOf x=some .cell\/X.env.kindOf x=some .free)/\cl.lookup x=X.env.cells.lookup x /\
  ((relabel scope X.env).names.lookup x=some .cell\/(relabel scope X.env).names.lookup x=some .free)
 |_,_,.nil=>⟨rfl,λi x j h=>by simp at h⟩
 |_,_,.cons h1 h2 h3 h4 t=>⟨by simp[t.get.1],λi x j hx hj=>by
  cases i with
  |zero=>simp at hx hj;subst hx hj;exact⟨h1,h2,h3,h4⟩
  |succ i=>exact t.get.2 i x j (by simpa using hx) (by simpa using hj)⟩
inductive SubC(X:Cx):List (Str×Addr)->Prop
 |nil:SubC X []
 |cons {x:Str}{c:Addr}{cl:List (Str×Addr)} (h:X.env.cells.lookup x=some c) (t:SubC X cl):SubC X ((x,c)::cl)
theorem SubC.of{X:Cx}:∀{cl:List (Str×Addr)},SubC X cl->∀x c,cl.lookup x=some c->X.env.cells.lookup x=some c
 |_,.nil,x,c,h=>by simp at h
 |_,.cons (x:=y) (c:=d) h0 t,x,c,h=>by
  rw[List.lookup_cons]at h
  cases e:x == y with
  |true=>
   rw[e]at h;have:x=y:=by simpa using e
   subst this;rw[h0];simpa using h
  |false=>rw[e]at h;exact t.of x c (by simpa using h)
def yd(X:Cx)(N':List Str)(scope:Scope)(cl:List (Str×Addr))(C:Addr)(fp:List Addr)(s2:Shared)(H2:Hp):Cx where
 prog:=X.prog
 w:=X.w
 K:=X.K
 mg:=X.mg
 base:=X.base
 A:=X.A
 N:=N'
 s₀:=s2
 H₀:=H2
 env:=compEnvC scope cl C X.env
 outer:=X.stack
 stack:=X.stack
 ex:=fp
 fn:=λ_=>false
 calm:=true
 pn:=[]
 xe:=λ_ _=>False
def z9(k:Nat)(js:List Nat)(σ:St):St:=List.replicate k none++js.map λj=>(σ[j]?).join
def PTs(X:Cx)(ifs:List Expr)(t:TT):Prop :=
 ∀(pins:List (Addr×Obj)) (s:Shared) (σ:St) (H:Hp) (Q:Bool->Hp->Prop),Inv X pins σ H s->t σ H Q ->
  wpAny (model X.prog X.w) X.A (forIn ifs true λc r=>if r=true then do let ok <-isTrue c X.env (eval c X.env);pure (ForInStep.yield ok) else pure (ForInStep.yield r)) (TP X pins σ Q) X.xe s
def zup:TT:=λ_ H Q=>Q true H
theorem zo5{X:Cx}:PTs X [] zup:=λ_ _ _ H _ I h=>wpAny_tests_nil ⟨H,I,h⟩
theorem zo6{X:Cx}{c:Expr}{t:TT}(hc:PT X c t):PTs X [c] t:=λpins s σ H Q I h=>wpAny_tests_one (hc pins s σ H Q I h)
def zbn(J:It)(D:Addr)(g:TG)(tt:TT)(te:TE)(σ0:St)(H1:Hp)(Q:VK):Prop :=
 ∃W:Nat->Nat->St->Hp->Prop,(∃m,W 0 m σ0 (upd H1 D (.lst [])))/\∀i m σ H,W i m σ H ->
  (J.stop i H/\Q (.ref D) H)\/(J.go i H/\∀x H',J.yld i H x H'->g x σ H' λσ2 H2=>tt σ2 H2 λb H3=>
   if b=true then te σ2 H3 λy H4=>∃ys,H4 D=some (.lst ys)/\ys.length<sizeLine/\∃m',m' < m/\W (i+1) m' σ2 (upd H4 D (.lst (ys ++ [y])))
   else ∃m',m' < m/\W (i+1) m' σ2 H3)
def tLC(k:Nat)(js:List Nat)(wi:TI)(g:TG)(tt:TT)(te:TE):TE:=λσ H Q=>wi σ H λJ H1=>∀D,H1 D=none->zbn J D g tt te (z9 k js σ) H1 Q
section
variable {X:Cx}
theorem zqt{N':List Str}{scope:Scope}{cl:List (Str×Addr)}{fp:List Addr}{pins:List (Addr×Obj)}{σ:St}{H2:Hp}{s2:Shared}{C:Addr}(I:Inv X pins σ H2 s2)(hc:X.calm=true)(hkind:scope.kind=.function)(hC:s2.heap.objs.size<=C)
  (hsub:SubC X cl) (hhas:(relabel scope X.env).names.all (λp=>(p.2 != .cell && p.2 != .free) ||(cl.lookup p.1).isSome)=true)
  (hf:∀b∈fp,zan X pins H2 b) (ho:∀b∈fp,∃o,s2.heap.get? b=some o/\∀v,o.data ≠ .cell v):(yd X N' scope cl C fp s2 H2).Ok where
 mod:=I.ok.mod
 kind:=hkind
 glob:=I.ok.glob
 blt:=I.ok.blt
 above:=hC
 inj:=λx y c h1 h2=>I.ok.inj x y c (hsub.of x c h1) (hsub.of y c h2)
 has:=λx hx=>by
  have hx:(relabel scope X.env).names.lookup x=some .cell\/(relabel scope X.env).names.lookup x=some .free:=hx;have key:∀k,(relabel scope X.env).names.lookup x=some k->(k=.cell\/k=.free)->∃c,cl.lookup x=some c:=λk hk hkk=>by
   have hm:=PySem.mem_of_lookup hk;have:=List.all_eq_true.mp hhas _ hm;rcases hkk with rfl|rfl <;> exact Option.isSome_iff_exists.mp (by simpa using this)
  rcases hx with hx|hx
  ·exact key _ hx (.inl rfl)
  ·exact key _ hx (.inr rfl)
 cab:=λx c h=>by cases h
 hd:=λ_=>I.ok.hd hc
 frames:=I.ok.frames
 stk:=.inl rfl
 exf:=λb hb=>by
  obtain⟨o,e,_⟩:=ho b hb;obtain⟨f0,f1,f2,f3,f4,f5⟩:=hf b hb;exact⟨Nat.ne_of_lt (Nat.lt_of_lt_of_le (Heap.lt_size e) hC),λx c h=>f4 x c (hsub.of x c h)⟩
 bs:=I.bs
 bsz:=Nat.le_trans I.ok.bsz I.sz
 noex:=λb o e hb=>by
  obtain⟨f0,f1,f2,f3,f4,f5⟩:=hf b hb;rcases f3 with z|z
  ·exact I.ok.noex b o e z
  ·exact absurd (Nat.lt_of_lt_of_le (Heap.lt_size e) (Nat.le_trans I.ok.bsz z)) (Nat.lt_irrefl _)
 exfs:=λb hb z=>by
  obtain⟨f0,f1,f2,f3,f4,f5⟩:=hf b hb;exact(List.mem_cons.mp (I.stkSub b z)).elim f1 f2
 funs:=I.stack
 frf:=I.stkFree
theorem zlx{N' capt:List Str}{k:Nat}{js:List Nat}{scope:Scope}{cl:List (Str×Addr)}{fp:List Addr}{pins:List (Addr×Obj)}{σ:St}{H2:Hp}{s2:Shared}{D C:Addr}{h4:Heap}{t4:Nat}{m:Str->Option Value}(I:Inv X pins σ H2 s2)(ok:(yd X N' scope cl C fp s2 H2).Ok)
  (hD:s2.heap.objs.size<=D) (hC:s2.heap.objs.size<=C) (hDC:D≠C) (keep:∀b o,s2.heap.get? b=some o->h4.get? b=some o) (hns:h4.Ns C m)
  (hl:h4.get? D=some { cls:=.type "list",data:=.seq #[] 0 })
  (hsub:SubC X cl) (hcap:Capt X scope cl capt js) (hN:N'=N'.take k++capt) (hk:k<=N'.length) :
  Inv (yd X N' scope cl C fp s2 H2) [] (z9 k js σ) (upd H2 D (.lst [])) { s2 with heap:=h4,toks:=t4 }:=by
 have below:∀b o,s2.heap.get? b=some o->b≠D/\b≠C:=λb o e=>⟨Nat.ne_of_lt (Nat.lt_of_lt_of_le (Heap.lt_size e) hD),Nat.ne_of_lt (Nat.lt_of_lt_of_le (Heap.lt_size e) hC)⟩
 have hlen:N'.length=k+capt.length:=by
  have:=congrArg List.length hN;rw[List.length_append,List.length_take]at this;(clear hD hC;lia)
 refine⟨ok,rfl,I.bare,Un.laid keep hD (I.hok.fresh hD),⟨m,hns,λi x v h1 h2 h3=>?_⟩,λx c h=>?_,?_,λx c h=>?_,λp hp=>absurd (show p∈([]:List (Addr×Obj)) from hp) (by simp),?_,?_⟩
 ·have h1:N'[i]?=some x:=h1;unfold z9 at h2
  by_cases hi:i<k
  ·rw[List.getElem?_append_left (by simpa using hi),List.getElem?_replicate]at h2;rw[if_pos hi]at h2
   cases h2
  ·rw[List.getElem?_append_right (by simpa using hi),List.length_replicate,List.getElem?_map]at h2
   have hx:capt[i-k]?=some x:=by
    rw[hN,List.getElem?_append_right (by rw[List.length_take];(clear hD hC;lia)),List.length_take]at h1;rw[show min k N'.length=k by (clear hD hC hi;lia)]at h1;exact h1
   cases ej:js[i-k]? with
   |none=>rw[ej]at h2;cases h2
   |some j=>
    rw[ej]at h2;have h2':(σ[j]?).join=some v:=Option.some.inj h2;obtain⟨q1,q2,q3,q4⟩:=hcap.get.2 _ _ _ hx ej;have hv:σ[j]?=some (some v):=by
     cases e:σ[j]? with
     |none=>rw[e]at h2';cases h2'
     |some o=>rw[e]at h2';cases o with
      |none=>cases h2'
      |some v'=>simpa using h2'
    obtain⟨m0,hn0,hl0⟩:=I.loc;obtain⟨u,r,l⟩:=hl0 j x v q1 hv (by rcases q2 with z|z;exact .inr (.inl z);exact .inr (.inr z));refine⟨u,r,?_⟩;rcases l with⟨z,_⟩ |⟨_,c,e,o,z1,z2⟩
    ·rcases q2 with q|q <;> · rw[q]at z;cases z
    ·exact .inr ⟨q4,c,q3.trans e,o,keep c o z1,z2⟩
 ·obtain⟨v,o,z1,z2⟩:=I.cell x c (hsub.of x c h);exact⟨v,o,keep c o z1,z2⟩
 ·show upd H2 D (.lst []) C=none;rw[zv (Ne.symm hDC)];exact I.hok.fresh hC
 ·obtain⟨v,o,z1,z2⟩:=I.cell x c (hsub.of x c h);show upd H2 D (.lst []) c=none;rw[zv (below c o z1).1];exact I.freeC x c (hsub.of x c h)
 ·exact I.hok.laid keep hD ⟨Nat.zero_le _,[],0,.nil,hl⟩
 ·show(z9 k js σ).length=N'.length;unfold z9;rw[List.length_append,List.length_replicate,List.length_map,hlen,hcap.get.1]
structure zc1(X:Cx)(scope:Scope)(cl:List (Str×Addr))(N' capt:List Str)(k:Nat)(js:List Nat):Prop where
 clos:closureFor scope X.env=pure cl
 cell:∀y∈scope.names,y.2 ≠ .cell
 kind:scope.kind=.function
 names:∀y∈scope.names,y.2=.local->scope.names.lookup y.1=some .local
 sub:SubC X cl
 has:(relabel scope X.env).names.all (λp=>(p.2 != .cell && p.2 != .free) ||(cl.lookup p.1).isSome)=true
 cap:Capt X scope cl capt js
 hN:N'=N'.take k++capt
 hk:k<=N'.length
def LcEnd(X:Cx)(pins:List (Addr×Obj))(σ:St)(Q:VK)(acc:Value)(C:Addr)(r:Result)(s':Shared):Prop :=
 ∃(f:Flow) (D:Addr) (H':Hp) (m:Str->Option Value),r=.ok f/\acc=.ref D/\Inv X pins σ H' s'/\Q (.ref D) H'/\s'.heap.Ns C m/\H' C=none/\C≠X.env.locals/\X.s₀.heap.objs.size<=C/\(∀x c,X.env.cells.lookup x=some c->c≠C)/\∀p∈X.pn++pins,p.1≠C
theorem LcEnd.let_go{pins:List (Addr×Obj)}{σ':St}{H':Hp}{C:Addr}{s'':Shared}{h':Heap}(I:Inv X pins σ' H' s'')(hn:H' C=none)(h1:C≠X.env.locals)(h2:X.s₀.heap.objs.size<=C)(h3:∀x c,X.env.cells.lookup x=some c->c≠C)(h4:∀p∈X.pn++pins,p.1≠C)
  (hs:Heap.SameBut C s''.heap h'):Inv X pins σ' H' { s'' with heap:=h' } :=
 I.turned (t':=s''.toks) (λb o hb e=>(hs.2 b hb).trans e) hn h1 (.inr h2) h3 h4
theorem zfl{elt tg iter:Expr}{ifs:List Expr}{scope:Scope}{pos:Pos}{cl:List (Str×Addr)}{N' capt:List Str}{k:Nat}{js:List Nat}{g:TG}{tt:TT}{te:TE}{J:It}{fp:List Addr}{tn:Nat->Heap->Prop}{it:Addr}
  {pins:List (Addr×Obj)}{σ:St}{H2:Hp}{s2:Shared}{Q:VK}{E:Value->Shared->Prop} (hc:X.calm=true) (L:zc1 X scope cl N' capt k js)
  (hg:∀C fp s2 H2,PG (yd X N' scope cl C fp s2 H2) tg g) (ht:∀C fp s2 H2,PTs (yd X N' scope cl C fp s2 H2) ifs tt) (he:∀C fp s2 H2,PE (yd X N' scope cl C fp s2 H2) elt te)
  (I2:Inv X pins σ H2 s2) (T:zg5 X.prog X.w X.K tg J fp it tn) (st2:tn 0 s2.heap) (f2:∀b∈fp,zan X pins H2 b) (q:∀D,H2 D=none->zbn J D g tt te (z9 k js σ) H2 Q) :
  wpAny (model X.prog X.w) X.A (newList []) (λacc s3=>wpAny (model X.prog X.w) X.A (newFunctionEnv scope X.env.globals cl [] X.env.qual none .none (some X.env)) (λcenv s4=>
   codeAny (model X.prog X.w) X.A (.compStart (.ListComp elt [⟨tg,iter,ifs,0⟩] scope pos) 0 (.ref it) acc { cenv with scope:=relabel scope X.env }) (LcEnd X pins σ Q acc cenv.locals) s4) E s3) E s2:=by
 refine wpAny_newObj_type (wpAny_newFunctionEnv L.cell (by intro y hy;simp at hy) (λh₁ hns₁ hsb₁=>?_) L.kind);dsimp only at hns₁ hsb₁ ⊢;generalize hH2:s2.heap.push { cls:=.type "list",dict:=none,data:=.seq ([]:List Value).toArray }=G at hns₁ hsb₁ ⊢;have hC:G.objs.size=s2.heap.objs.size+1:=by rw[<-hH2,Heap.size_push]
 have hDC:s2.heap.objs.size≠G.objs.size:=by rw[hC];exact Nat.ne_of_lt (Nat.lt_succ_self _)
 have hCle:s2.heap.objs.size<=G.objs.size:=by rw[hC];exact Nat.le_succ _
 have below:∀b,b<s2.heap.objs.size->b≠G.objs.size:=λb hb=>by rw[hC];exact Nat.ne_of_lt (Nat.lt_succ_of_lt hb)
 have keep:∀b o,s2.heap.get? b=some o->h₁.get? b=some o:=λb o e=>hsb₁.extBut b o (below b (Heap.lt_size e)) (Heap.get?_push_of_some _ (hH2 ▸ Heap.get?_push_of_some _ e));have hl:h₁.get? s2.heap.objs.size=some { cls:=.type "list",data:=.seq #[] 0 }:=hsb₁.extBut _ _ hDC (Heap.get?_push_of_some _ (hH2 ▸ Heap.get?_push_size _ rfl));have ho2:=T.obj _ _ st2;have ok:(yd X N' scope cl G.objs.size fp s2 H2).Ok:=zqt I2 hc L.kind hCle L.sub L.has f2 ho2;generalize hD:s2.heap.objs.size=D at hl hDC ⊢;generalize hCC:G.objs.size=C at hns₁ hsb₁ hDC hC hCle below ok ⊢;have hDle:s2.heap.objs.size<=D:=by rw[hD];exact Nat.le_refl _
 have I4:Inv (yd X N' scope cl C fp s2 H2) [] (z9 k js σ) (upd H2 D (.lst [])) { s2 with heap:=h₁,toks:=s2.toks+([]:List (Str×Value)).length } :=
  zlx I2 ok hDle hCle hDC keep hns₁ hl L.sub L.cap L.hN L.hk
 obtain⟨W,⟨m0,w0⟩,turn⟩:=q D (I2.hok.fresh hDle);have tn0:tn 0 h₁:=T.keep _ _ _ st2 λb _ o e=>keep b o e;have fr0:∀b∈fp,upd H2 D (.lst []) b=none:=λb hb=>by
  obtain⟨o,e,_⟩:=ho2 b hb;rw[zv (Nat.ne_of_lt (Nat.lt_of_lt_of_le (Heap.lt_size e) hDle))];exact(f2 b hb).1
 have stat:∀{H':Hp},(∀b∈fp,H' b=none)->∀b∈fp,zan (yd X N' scope cl C fp s2 H2) [] H' b:=λhn b hb=>by
  refine⟨hn b hb,(ok.exf b hb).1,ok.exfs b hb,.inl hb,(ok.exf b hb).2,λp hp=>absurd (show p∈([]:List (Addr×Obj)) from hp) (by simp)⟩
 have loop:∀s₃:Shared,s₃ = { s2 with heap:=h₁,toks:=s2.toks+([]:List (Str×Value)).length } ->
   codeAny (model X.prog X.w) X.A (.compLoop (.ListComp elt [⟨tg,iter,ifs,0⟩] scope pos) 0 (.ref it) (.ref D) (compEnvC scope cl C X.env)) (LcEnd X pins σ Q (.ref D) C) s₃:=by
  rintro s₃ rfl;refine zeb (λn s'=>∃i σ' H',Inv (yd X N' scope cl C fp s2 H2) [] σ' H' s'/\tn i s'.heap/\(∀b∈fp,H' b=none)/\W i n σ' H') ?_ m0 ⟨0,_,_,I4,tn0,fr0,w0⟩;intro n s3 zz;refine gg λG zk=>?_;obtain⟨i,σ3,H3,I3,st3,fr3,w3⟩:=zz;refine zk ?_;clear zk;rcases turn i n σ3 H3 w3 with⟨stop,qn⟩ |⟨go,step⟩
  ·refine thn (T.done (yd X N' scope cl C fp s2 H2) rfl rfl rfl rfl i [] s3 σ3 H3 (λ_ _=>False) I3 (stat fr3) st3 stop) λr s4 zy79=>?_;obtain⟨hr,J4⟩:=zy79;subst hr;obtain⟨m,hn,_⟩:=id J4.loc;have hs:X.s₀.heap.objs.size<=C:=Nat.le_trans I2.sz hCle;refine⟨.next,D,H3,m,rfl,rfl,I2.call' (ch:=fp) J4.os J4.base J4.hok J4.bare (λb hb=>?_),qn,hn,J4.free,λz=>?_,hs,λx c h z=>?_,λp hp z=>?_⟩
   ·obtain⟨f0,f1,f2',f3,f4,f5⟩:=f2 b hb;exact⟨f3,f1,f4,f5⟩
   ·have:=I2.lt;rw[<-z]at this;exact absurd (Nat.lt_of_lt_of_le this hCle) (Nat.lt_irrefl _)
   ·obtain⟨v,o,z1,_⟩:=I2.cell x c h;have:=Heap.lt_size z1;rw[z]at this;exact absurd (Nat.lt_of_lt_of_le this hCle) (Nat.lt_irrefl _)
   ·have:=Heap.lt_size (I2.pin p hp).1;rw[z]at this;exact absurd (Nat.lt_of_lt_of_le this hCle) (Nat.lt_irrefl _)
  ·refine thn (T.item (yd X N' scope cl C fp s2 H2) rfl rfl rfl rfl i [] s3 σ3 H3 (λ_ _=>False) I3 (stat fr3) st3 go) λr s4 zy7=>?_;obtain⟨u,hr,h4⟩:=zy7;subst hr;refine thn h4 λ_ s5 zr4=>?_;obtain⟨x,H5,I5,r5,y5,st5,fr5⟩:=zr4;have I5':=I5.pinned (stat fr5) (T.obj _ _ st5);refine thn (hg C fp s2 H2 _ s5 σ3 H5 x u _ I5' r5 (step x H5 y5)) λ_ s6 zr6=>?_;obtain⟨σ6,H6,I6,q6⟩:=zr6;refine thn (ht C fp s2 H2 _ s6 σ6 H6 _ I6 q6) λok s7 zy14=>?_;obtain⟨H7,I7,q7⟩:=zy14
   have again:∀{H8:Hp}{s8:Shared},Inv (yd X N' scope cl C fp s2 H2) ([]++jc fp s5.heap) σ6 H8 s8->(∃m',m' < n/\W (i+1) m' σ6 H8)->∃m,m<n/\∃i σ' H',Inv (yd X N' scope cl C fp s2 H2) [] σ' H' s8/\tn i s8.heap/\(∀b∈fp,H' b=none)/\W i m σ' H':=λ{H8 s8} I8 n8=>by
    obtain⟨m',hm,w8⟩:=n8;refine⟨m',hm,i+1,σ6,H8,I8.unpinned,T.keep _ _ _ st5 λb hb o e=>(I8.pin (b,o) (List.mem_append_right _ (List.mem_append_right _ (y6 hb e)))).1,λb hb=>?_,w8⟩;obtain⟨o,e,d⟩:=T.obj _ _ st5 b hb;exact(I8.pin (b,o) (List.mem_append_right _ (List.mem_append_right _ (y6 hb e)))).2.1
   cases ok with
   |false=>
    rw[if_neg Bool.false_ne_true]at q7;exact again I7 q7
   |true=>
    rw[if_pos rfl]at q7;refine thn (he C fp s2 H2 _ s7 σ6 H7 _ I7 q7) λy s8 zr19=>?_;obtain⟨v8,H8,I8,r8,q8⟩:=zr19;obtain⟨ys,e8,z8,w8⟩:=q8;refine thn (qy (X:=yd X N' scope cl C fp s2 H2) _ s8 σ6 H8 (.ref D) [v8] (.ref D) [y] (λv H=>∃m',m' < n/\W (i+1) m' σ6 H) I8 rfl (.cons r8 .nil) ⟨D,ys,v8,rfl,rfl,e8,z8,w8⟩) λ_ s9 zr21=>?_;obtain⟨v9,H9,I9,_,w9⟩:=zr21;exact again I9 w9
 exact codeAny_compStart_list (loop _ rfl) (T.self _ 0 _ _ _ tn0 (loop _ rfl))
theorem zuq{elt tg iter:Expr}{ifs:List Expr}{scope:Scope}{pos:Pos}{cl:List (Str×Addr)}{N' capt:List Str}{k:Nat}{js:List Nat}{wi:TI}{g:TG}{tt:TT}{te:TE}(hc:X.calm=true)(L:zc1 X scope cl N' capt k js)
  (hi:PI X tg iter wi) (hg:∀C fp s2 H2,PG (yd X N' scope cl C fp s2 H2) tg g) (ht:∀C fp s2 H2,PTs (yd X N' scope cl C fp s2 H2) ifs tt) (he:∀C fp s2 H2,PE (yd X N' scope cl C fp s2 H2) elt te)
  (hs:∀x,foldedSetIterable iter X.env x=pure x:=by intro _;rfl):PE X (.ListComp elt [⟨tg,iter,ifs,0⟩] scope pos) (tLC k js wi g tt te):=by
 intro pins s σ H Q I h;rw[eval_ListComp];refine wpAny_comprehension_free (use:=none) rfl hs L.clos L.kind L.names (thn (hi pins s σ H _ I h) λv s1 h1=>thn h1 λitv s2 h2=>?_);obtain⟨it,fp,tn,J,H2,e,I2,T,st2,f2,q⟩:=h2;subst e;refine thn (zfl (E:=X.xe) hc L hg ht he I2 T st2 f2 q) λacc s3 h3=>thn h3 λcenv s4 h4=>codeAny_mono h4 λr s' hr=>?_;obtain⟨f,D,H',m,rfl,rfl,J',qq,hn,b1,b2,b3,b4,b5⟩:=hr;exact⟨m,hn,λh' hsb=>⟨.ref D,H',LcEnd.let_go J' b1 b2 b3 b4 b5 hsb,rfl,qq⟩⟩
theorem zfm{i:Nat}{x:Str}{elt tg iter:Expr}{ifs:List Expr}{scope:Scope}{pos pos' spos:Pos}{cl:List (Str×Addr)}{N' capt:List Str}{k:Nat}{js:List Nat}{wi:TI}{g:TG}{tt:TT}{te:TE}(hN:X.N.Nodup)(hi':X.N[i]?=some x)(hx:Loc X.env.scope x)(hc:X.calm=true)(L:zc1 X scope cl N' capt k js)
  (hi:PI X tg iter wi) (hg:∀C fp s2 H2,PG (yd X N' scope cl C fp s2 H2) tg g) (ht:∀C fp s2 H2,PTs (yd X N' scope cl C fp s2 H2) ifs tt) (he:∀C fp s2 H2,PE (yd X N' scope cl C fp s2 H2) elt te)
  (hsw:swapsWith (.ListComp elt [⟨tg,iter,ifs,0⟩] scope pos) (some (.Name x pos')) spos.line X.env=pure true:=by rfl)
  (hs:∀x,foldedSetIterable iter X.env x=pure x:=by intro _;rfl) (hf:X.fn x=true\/X.env.scope.names.lookup x=some .local:=by first|exact .inl rfl|exact .inr rfl|assumption):PS X (.Assign [.Name x pos'] (.ListComp elt [⟨tg,iter,ifs,0⟩] scope pos) spos) (zri (tLC k js wi g tt te) (zqo i)):=by
 intro pins s σ H D I h;have h:tLC k js wi g tt te σ H (λv H1=>D.nx (σ.set i (some v)) H1):=h;rw[exec_Assign_Name_used _ _ _ _ hsw];refine wpAny_bind (wpAny_standAt (wpAny_bind ?_));show wpAny _ X.A (do let _ <-comprehension (.ListComp elt [⟨tg,iter,ifs,0⟩] scope pos) scope X.env _ (newList []) false (eval iter X.env) (some (assign (.Name x pos') X.env))) _ _ s;refine wpAny_bind (wpAny_mono (wpAny_comprehension_free (use:=some (assign (.Name x pos') X.env)) (Q:=λ_ s'=>SP X pins D .next s') rfl hs L.clos L.kind L.names
  (thn (hi pins s σ H _ I h) λv s1 h1=>thn h1 λitv s2 h2=>?_)) (λ_ s' hq=>wpAny_pure (wpAny_pure hq)) λ_ _ e=>e)
 obtain⟨it,fp,tn,J,H2,e,I2,T,st2,f2,q⟩:=h2;subst e;refine thn (zfl (E:=X.xe) hc L hg ht he I2 T st2 f2 q) λacc s3 h3=>thn h3 λcenv s4 h4=>codeAny_mono h4 λr s' hr=>?_;obtain⟨f,D',H',m,rfl,rfl,J',qq,hn,b1,b2,b3,b4,b5⟩:=hr;show wpAny _ X.A (assign (.Name x pos') X.env (.ref D')) _ _ _;refine wpAny_assign_Name (zdd (v:=.ref D') J' hN hi' hx rfl (λs'' J'' hsb=>?_) hf);obtain⟨a,hsb,ha⟩:=hsb;have hne:cenv.locals≠a:=by
  rcases ha with z|z
  ·rw[z];exact b2
  ·exact λz'=>b4 x a z z'.symm
 exact⟨m,hn.sameBut hsb hne,λh' hs'=>⟨_,H',LcEnd.let_go J'' b1 b2 b3 b4 b5 hs',qq⟩⟩
end
section
variable {X:Cx}
def zur(i j:Int):Prop:=0<j/\j<10000000000000000000000000000000000000000000000000000000000000
theorem zfn:OpR X (binaryOp .FloorDiv) (rI zur λi j=>.int (i / j)):=opI λi j _ _ _ _ _ hc q=>by
 have h0:j≠0:=by have:=hc.1;omega
 have e:i.fdiv j=i / j:=Int.fdiv_eq_ediv_of_nonneg i (by have:=hc.1;lia);refine floordiv_int h0 (by rw[e];exact q) (.inl (PyProof.noPylong_of_log2 ?_));have h1:j.natAbs<2 ^ 400:=Nat.lt_of_lt_of_le (show j.natAbs<10000000000000000000000000000000000000000000000000000000000000 by have h1:=hc.1;have h2:=hc.2;omega) (by decide +kernel);have h2:j.natAbs≠0:=by (clear e;lia)
 exact Nat.lt_of_lt_of_le ((Nat.log2_lt h2).mpr h1) (by decide)
end
def je(P:Program)(w:World)(K:PySem.W.Frag)(mg:Str->Option Value)(base:Heap)(k:Nat)(x:Str)(ps:List Str)(sp:Sp):Prop :=
 ∃f fd,FnOk P w K mg base CX0 k f fd ps sp/\Binds K fd ps []/\PySem.W.keepIn K (.ref f)=true/\mg x=some (.ref f)
theorem jx{X:Cx}{k k':Nat}{x:Str}{ps:List Str}{sp:Sp}{e:Expr}{es:List Expr}{t:TA}{p pos:Pos}(C:je X.prog X.w X.K X.mg X.base k x ps sp)(hr:Room k' X.A)(hg:Gl X x)(ha:PA X (e::es) t)(hk:k<=k':=by decide)
  (hdb:(x ==("__debug__" : Str))=false:=by decide) (he:starEach (e::es) X.env=(false,eval e X.env)::starEach es X.env:=by rfl) (hpl:(backTo pos (starEach es X.env)).any (·.1)=false:=by rfl) :
  PE X (.Call (.Name x p) (e::es) [] pos) (zqs sp [] E0 t):=by
 intro pins s σ H Q I h;obtain⟨f,fd,F,b,kp,m⟩:=C;exact zoz F (hr.mono hk) hg m kp b .nil zun ha hdb he hpl pins s σ H Q I h
def But(p:Addr)(H H':Hp):Prop:=∀b o,b≠p->H b=some o->H' b=some o
theorem But.trans{p:Addr}{H H1 H2:Hp}(a:But p H H1)(b:But p H1 H2):But p H H2:=λc o n h=>b c o n (a c o n h)
theorem But.of_same{p:Addr}{H H':Hp}(h:Same H H'):But p H H':=λb o _ q=>h b o q
theorem But.write{p:Addr}{H:Hp}{o:HO}:But p H (upd H p o):=λb u n q=>by rw[zv n];exact q
theorem Same.but{p:Addr}{H H1 H2:Hp}(a:Same H H1)(hp:H p=none)(b:But p H1 H2):Same H H2:=λc o h=>b c o (yy h hp) (a c o h)
theorem z5{H:Hp}{p:Addr}(h:H p=none)(o:HO):Same H (upd H p o):=λb u q=>by rw[zv (yy q h)];exact q
def Pen(H:Hp)(p:Addr):Prop:=∃a b c:Int,H p=some (.lst [.int a,.int b,.int c])
theorem zus{n:Nat}(h:n<=10000):n<sizeLine:=Nat.lt_of_le_of_lt h (by decide)
theorem zr7{n:Nat}(h:n<=10000):n<=sizeLine:=Nat.le_of_lt (zus h)
theorem zr8{α:Type}{xs:List α}{k:Int}(h0:0<=k)(h1:k<xs.length):∃v,atI xs k=some v/\xs[k.toNat]?=some v:=by
 have hk:k.toNat<xs.length:=by lia
 have ek:k=((k.toNat:Nat):Int):=by lia
 have q:atI xs ((k.toNat:Nat):Int)=some xs[k.toNat]:=qw (List.getElem?_eq_getElem hk);rw[<-ek]at q;exact⟨_,q,List.getElem?_eq_getElem hk⟩
section
variable {X:Cx}
theorem zkn{prog:Program}{w:World}{A:Around}{E:Value->Shared->Prop}{s:Shared}{t sl:Addr}{its:Array Value}{vl vu:Value}{lo hi:Option Int}{Q:Value->Shared->Prop}(ht:IsTup s.heap t its)(hs:s.heap.IsSliceOf sl vl vu .none)(pl:IsPart vl lo)(pu:IsPart vu hi)
  (h0:HT.sIx its.size 0 lo=0) (h1:HT.sIx its.size its.size hi=its.size) (h:Q (.ref t) s):wpAny (model prog w) A (getItem (.ref t) (.ref sl)) Q E s:=by
 obtain⟨os,hos,hcs,hds⟩:=id hs;have hTs:s.TypeIs (.ref sl) "slice" :=⟨os,hos,hcs⟩
 unfold getItem
 try with_reducible refine wpAny_holding ?_
 first |(refine wpAny_bind (wpAny_pure ?_))|skip
 refine wpAny_bind (wpAny_sequenceKey ht.typeIs (by decide) (wpAny_bind (wpAny_callSpecial?_slot (name:=Str.ofString "__getitem__") ht.typeIs PyProof.Rows.slot_tuple_getitem (wpAny_call_entry PyProof.Rows.slot_tuple_getitem ht.typeIs entry_tuple_getitem ?_ (args_tuple_getitem _ _)))));refine(show wpAny _ _ (Builtin.Tuple.tupleItemsOf (.ref t) >>= _) _ _ s from wpAny_bind (tupleItemsOf_ ht (wpAny_bind (wpAny_typeOf hTs ?_))));rw[if_pos (by decide)];refine wpAny_bind (HT.sliceApplied_gen hs pl pu ?_);rw[h0,h1];have hy:(((((0:Nat):Int) == 0 && (1:Int) == 1) && (its.size-0 == its.size))=true):=by simp
 show wpAny _ _ (if (((0:Nat):Int) == 0 && (1:Int) == 1 && (its.size-0) == its.size)=true then _ else _) _ _ s;rw[if_pos hy];refine wpAny_bind (m:=Builtin.Tuple.tupleIsExact _) ?_;unfold Builtin.Tuple.tupleIsExact;refine wpAny_bind (wpAny_typeOf ht.typeIs (wpAny_pure ?_));rw[if_pos (by decide)]
 first
  |exact wpAny_bind (wpAny_rule (wpAny_pure ⟨_,rfl,wpAny_pure h⟩))
  |exact wpAny_bind (wpAny_rule (wpAny_bind (wpAny_pure (wpAny_pure ⟨_,rfl,wpAny_pure h⟩))))
  |exact wpAny_bind (wpAny_rule (wpAny_bind (wpAny_pure ⟨_,rfl,wpAny_pure h⟩)))
theorem fm_congr{α β:Type}{f g:α->Option β}:∀{l:List α},(∀x∈l,f x=g x)->l.filterMap f=l.filterMap g
 |[],_=>rfl
 |a::l,h=>by
  rw[List.filterMap_cons,List.filterMap_cons,h a (by simp),fm_congr (l:=l) λx hx=>h x (List.mem_cons_of_mem _ hx)]
end
theorem zly{α:Type}{xs:List α}{k:Int}(h0:0<=k)(h1:k<xs.length):∃v,atI xs k=some v/\v∈xs:=by
 obtain⟨v,h,e⟩:=zr8 h0 h1;exact⟨v,h,List.mem_of_getElem? e⟩
theorem zut{K:PySem.W.Frag}{H:Hp}{a:Addr}{its:Array Value}{n:Nat}{sl:Array (Option Value)}{xs:List V}(l:K.lookup a=some ⟨.type "tuple",none,.seq its n,sl⟩)(hz:its.size<=10000)(r:Vals xs its.toList):SqT K H a xs:=.inr ⟨_,its,n,l,rfl,rfl,rfl,zr7 hz,r⟩
end L2
namespace L2
open PySem
theorem zao{es:List Expr}{x1}{pos:Pos}{rest:List Expr}{env:Env}:starEach (.Tuple es x1 pos::rest) env=(false,eval (.Tuple es x1 pos) env)::starEach rest env:=by rw[starEach];intro e p h;cases h
theorem zr9{es:List Expr}{pos:Pos}{rest:List Expr}{env:Env}:starEach (.List es pos::rest) env=(false,eval (.List es pos) env)::starEach rest env:=by rw[starEach];intro e p h;cases h
theorem yg{c j}{pos:Pos}{rest:List Expr}{env:Env}:starEach (.Constant c j pos::rest) env=(false,eval (.Constant c j pos) env)::starEach rest env:=by rw[starEach];intro e p h;cases h
end L2
namespace L2
open PySem
theorem zuu{X:Cx}{e:Expr}{t:TT}(h:PW X e t):PT X e t:=h.pt
end L2
namespace PySem
mutual
def jy(prog:Program)(w:World):PyData->Int
 |.int n=>(L2.mixKind prog w).hash (.inl n)
 |.str x=>(L2.mixKind prog w).hash (.inr x)
 |.tuple ds=>reduceHash (Builtin.Tuple.tupleHashOf (khashA prog w ds))
 |_=>0
def khashA(prog:Program)(w:World):List PyData->List Int
 |[]=>[]
 |d::ds=>jy prog w d::khashA prog w ds
end
end PySem
namespace L2
open PySem PySem.Spec PyProof.Rows
abbrev D:=PyData
def kD:Key->D
 |.inl i=>.int i
 |.inr x=>.str x
def DcE(a:Addr)(ps:List (D×Addr×V)):Program->World->Heap->Prop:=λP w h=>∃xs:List (D×Addr×Value),Paired (λ(p:D×Addr×V) (q:D×Addr×Value)=>p.1=q.1/\p.2.1=q.2.1/\RelV p.2.2 q.2.2) ps xs /\
 ∃o es ep,h.get? a=some o/\o.ExactDict/\o.data=.dict es ep/\es.toList=xs.map (λx=>⟨jy P w x.1,.ref x.2.1,x.2.2⟩)/\(xs.map (·.1)).Nodup/\(a == sysModules)=false/\ps.length<=sizeLine
def zap(a:Addr):HO:=.ext λh=>∃(x y z:Int) (tx ty tz:Tok) (n:Nat),h.get? a=some { cls:=.type "list",data:=.seq #[.int x tx,.int y ty,.int z tz] n }
def HO.per:HO->Bool
 |.tup _=>true
 |.frz _ _=>true
 |.ext _=>true
 |_=>false
def Pers(H H':Hp):Prop:=∀a o,H a=some o->o.per=true->H' a=some o
theorem Pers.refl(H:Hp):Pers H H:=λ_ _ h _=>h
theorem Pers.trans{H H1 H2:Hp}(a:Pers H H1)(b:Pers H1 H2):Pers H H2:=λc o h p=>b c o (a c o h p) p
theorem Same.pers{H H':Hp}(s:Same H H'):Pers H H':=λa o h _=>s a o h
theorem Pers.sqT{K:PySem.W.Frag}{H H':Hp}{a:Addr}{xs:List V}(p:Pers H H')(h:SqT K H a xs):SqT K H' a xs:=by
 rcases h with(h |⟨o,h⟩)|h
 ·exact .inl (.inl (p _ _ h rfl))
 ·exact .inl (.inr ⟨o,p _ _ h rfl⟩)
 ·exact .inr h
section
variable (K:PySem.W.Frag)
mutual
inductive Rep(H:Hp):D->V->Prop
 |non:Rep H .none .non
 |bl {b:Bool}:Rep H (.bool b) (.bl b)
 |int {i:Int}:Rep H (.int i) (.int i)
 |str {x:Str}:Rep H (.str x) (.str x)
 |tup {xs:List D}{a:Addr}{vs:List V} (h:SqT K H a vs) (r:Reps H xs vs):Rep H (.tuple xs) (.ref a)
 |lst {xs:List D}{a:Addr}{vs:List V}{o:Obj} (h:H a=some (.frz o (.lst vs))) (r:Reps H xs vs):Rep H (.list xs) (.ref a)
 |dic {kvs:List (D×D)}{a:Addr}{kws:List (Key×V)}{o:Obj} (h:H a=some (.frz o (.dK kws))) (r:RepK H kvs kws):Rep H (.dict kvs) (.ref a)
inductive Reps(H:Hp):List D->List V->Prop
 |nil:Reps H [] []
 |cons {d:D}{v:V}{ds:List D}{vs:List V} (r:Rep H d v) (t:Reps H ds vs):Reps H (d::ds) (v::vs)
inductive RepK(H:Hp):List (D×D)->List (Key×V)->Prop
 |nil:RepK H [] []
 |cons {k:Key}{d:D}{v:V}{ds:List (D×D)}{vs:List (Key×V)} (r:Rep H d v) (t:RepK H ds vs):RepK H ((kD k,d)::ds) ((k,v)::vs)
end
end
section
variable {K:PySem.W.Frag}{H H':Hp}
theorem Rep.mono(p:Pers H H'){d:D}{v:V}(h:Rep K H d v):Rep K H' d v :=
 Rep.rec (motive_1:=λd v _=>Rep K H' d v) (motive_2:=λds vs _=>Reps K H' ds vs) (motive_3:=λds vs _=>RepK K H' ds vs) .non .bl .int .str (λh _ i=>.tup (p.sqT h) i) (λh _ i=>.lst (p _ _ h rfl) i) (λh _ i=>.dic (p _ _ h rfl) i) .nil (λ_ _ i j=>.cons i j) .nil (λ_ _ i j=>.cons i j) h
theorem Reps.ind{P:List D->List V->Prop}(n:P [] [])(c:∀d v ds vs,Rep K H d v->Reps K H ds vs->P ds vs->P (d::ds) (v::vs)){ds:List D}{vs:List V}(h:Reps K H ds vs):P ds vs :=
 Reps.rec (motive_1:=λ_ _ _=>True) (motive_2:=λds vs _=>P ds vs) (motive_3:=λ_ _ _=>True) trivial trivial trivial trivial (λ_ _ _=>trivial) (λ_ _ _=>trivial) (λ_ _ _=>trivial) n (λr t _ j=>c _ _ _ _ r t j) trivial (λ_ _ _ _=>trivial) h
theorem Reps.mono(p:Pers H H'){ds:List D}{vs:List V}(h:Reps K H ds vs):Reps K H' ds vs:=h.ind .nil λ_ _ _ _ r _ j=>.cons (r.mono p) j
theorem Reps.length{ds:List D}{vs:List V}(h:Reps K H ds vs):ds.length=vs.length:=h.ind (P:=λds vs=>ds.length=vs.length) rfl λ_ _ _ _ _ _ j=>congrArg (·+1) j
theorem Reps.append{ds es:List D}{vs ws:List V}(h:Reps K H ds vs)(s:Reps K H es ws):Reps K H (ds++es) (vs++ws):=h.ind (P:=λds vs=>Reps K H (ds++es) (vs++ws)) s λ_ _ _ _ r _ j=>.cons r j
theorem Reps.get{ds:List D}{vs:List V}{i:Nat}{d:D}(h:Reps K H ds vs):ds[i]?=some d->∃v,vs[i]?=some v/\Rep K H d v :=
 h.ind (P:=λds vs=>∀i:Nat,ds[i]?=some d->∃v,vs[i]?=some v/\Rep K H d v) (λ_ e=>nomatch e) (λd' v ds vs r _ j i e=>by
  cases i with
  |zero=>cases e;exact⟨v,rfl,r⟩
  |succ i=>exact j i e) i
theorem Reps.take{ds:List D}{vs:List V}(n:Nat)(h:Reps K H ds vs):Reps K H (ds.take n) (vs.take n) :=
 h.ind (P:=λds vs=>∀n:Nat,Reps K H (ds.take n) (vs.take n)) (λn=>by rw[List.take_nil,List.take_nil];exact .nil) (λ_ _ _ _ r _ j n=>by
  cases n with
  |zero=>exact .nil
  |succ n=>exact .cons r (j n)) n
theorem Reps.drop{ds:List D}{vs:List V}(n:Nat)(h:Reps K H ds vs):Reps K H (ds.drop n) (vs.drop n) :=
 h.ind (P:=λds vs=>∀n:Nat,Reps K H (ds.drop n) (vs.drop n)) (λn=>by rw[List.drop_nil,List.drop_nil];exact .nil) (λ_ _ _ _ r t j n=>by
  cases n with
  |zero=>exact .cons r t
  |succ n=>exact j n) n
theorem Reps.rep{ds:List D}{vs:List V}(h:Reps K H ds vs):∀k:Nat,Reps K H (List.replicate k ds).flatten (List.replicate k vs).flatten
 |0=>.nil
 |k+1=>by
  rw[List.replicate_succ,List.replicate_succ,List.flatten_cons,List.flatten_cons];exact h.append (h.rep k)
theorem Reps.ints:∀{ns:List Int},Reps K H (ns.map PyData.int) (ns.map V.int)
 |[]=>.nil
 |_::_=>.cons .int Reps.ints
theorem Reps.same(s:Same H H'){ds:List D}{vs:List V}(r:Reps K H ds vs):Reps K H' ds vs:=r.mono s.pers
theorem Rep.same(s:Same H H'){d:D}{v:V}(r:Rep K H d v):Rep K H' d v:=r.mono s.pers
end
section
variable (K:PySem.W.Frag)
mutual
inductive RepN(H:Hp):D->V->Prop
 |non:RepN H .none .non
 |bl {b:Bool}:RepN H (.bool b) (.bl b)
 |int {i:Int}:RepN H (.int i) (.int i)
 |str {x:Str}:RepN H (.str x) (.str x)
 |tup {xs:List D}{a:Addr}{vs:List V} (h:SqT K H a vs) (r:RepNs H xs vs):RepN H (.tuple xs) (.ref a)
 |lst {xs:List D}{a:Addr}{vs:List V} (h:Rd H a (.lst vs)) (r:RepNs H xs vs):RepN H (.list xs) (.ref a)
inductive RepNs(H:Hp):List D->List V->Prop
 |nil:RepNs H [] []
 |cons {d:D}{v:V}{ds:List D}{vs:List V} (r:RepN H d v) (t:RepNs H ds vs):RepNs H (d::ds) (v::vs)
end
end
section
variable {K:PySem.W.Frag}{H H':Hp}
theorem Same.rd(s:Same H H'){a:Addr}{u:HO}(h:Rd H a u):Rd H' a u:=by
 rcases h with h |⟨o,h⟩
 ·exact .inl (s _ _ h)
 ·exact .inr ⟨o,s _ _ h⟩
theorem RepN.gen(ht:∀{a vs},SqT K H a vs->SqT K H' a vs)(hl:∀{a vs},Rd H a (.lst vs)->Rd H' a (.lst vs)){d:D}{v:V}(h:RepN K H d v):RepN K H' d v :=
 RepN.rec (motive_1:=λd v _=>RepN K H' d v) (motive_2:=λds vs _=>RepNs K H' ds vs) .non .bl .int .str (λh _ i=>.tup (ht h) i) (λh _ i=>.lst (hl h) i) .nil (λ_ _ i j=>.cons i j) h
theorem RepNs.ind{P:List D->List V->Prop}(n:P [] [])(c:∀d v ds vs,RepN K H d v->RepNs K H ds vs->P ds vs->P (d::ds) (v::vs)){ds:List D}{vs:List V}(h:RepNs K H ds vs):P ds vs :=
 RepNs.rec (motive_1:=λ_ _ _=>True) (motive_2:=λds vs _=>P ds vs) trivial trivial trivial trivial (λ_ _ _=>trivial) (λ_ _ _=>trivial) n (λr t _ j=>c _ _ _ _ r t j) h
theorem RepNs.gen(ht:∀{a vs},SqT K H a vs->SqT K H' a vs)(hl:∀{a vs},Rd H a (.lst vs)->Rd H' a (.lst vs)){ds:List D}{vs:List V}(h:RepNs K H ds vs):RepNs K H' ds vs:=h.ind .nil λ_ _ _ _ r _ j=>.cons (r.gen ht hl) j
theorem RepN.same(s:Same H H'){d:D}{v:V}(h:RepN K H d v):RepN K H' d v:=h.gen (λh=>s.pers.sqT h) (λh=>s.rd h)
theorem RepNs.same(s:Same H H'){ds:List D}{vs:List V}(h:RepNs K H ds vs):RepNs K H' ds vs:=h.gen (λh=>s.pers.sqT h) (λh=>s.rd h)
theorem Rep.now{d:D}{v:V}(h:Rep K H d v):(∀kvs,d ≠ .dict kvs)->d.canLay0=true->RepN K H d v :=
 Rep.rec (motive_1:=λd v _=>(∀kvs,d ≠ .dict kvs)->d.canLay0=true->RepN K H d v) (motive_2:=λds vs _=>PyData.canLayAll0 ds=true->RepNs K H ds vs) (motive_3:=λ_ _ _=>True)
  (λ_ _=>.non) (λ_ _=>.bl) (λ_ _=>.int) (λ_ _=>.str) (λh _ i _ c=>.tup h (i (by simpa[PyData.canLay0]using c))) (λh _ i _ c=>.lst (.inr ⟨_,h⟩) (i (by simpa[PyData.canLay0]using c))) (λ_ _ _ n _=>absurd rfl (n _))
  (λ_=>.nil) (λ_ _ i j c=>by
   simp only[PyData.canLayAll0,Bool.and_eq_true]at c;exact .cons (i (λkvs e=>by subst e;simp[PyData.canLay0]at c) c.1) (j c.2)) trivial (λ_ _ _ _=>trivial) h
theorem Reps.now{ds:List D}{vs:List V}(h:Reps K H ds vs):PyData.canLayAll0 ds=true->RepNs K H ds vs :=
 h.ind (P:=λds vs=>PyData.canLayAll0 ds=true->RepNs K H ds vs) (λ_=>.nil) λ_ _ _ _ r _ j c=>by
  simp only[PyData.canLayAll0,Bool.and_eq_true]at c;exact .cons (r.now (λkvs e=>by subst e;simp[PyData.canLay0]at c) c.1) (j c.2)
end
inductive Mx where
 |v (d:D)|l (xs:List D)
inductive O where
 |lst (xs:List D)
 |dct (kvs:List (Key×D))
 |nst (xss:List (List D)) (ds:List D)
 |anc (a:Addr) (o:O)
 |ins (c:Str) (fs:List (Str×D))
 |mix (ms:List Mx)
 |tk (ks:List Key)
 |dcT (kvs:List (List Key×D))
 |dcD (kvs:List (D×D))
 |insF (c:Str) (fs:List (Str×D)) (f:Str) (xs:List D)
 |fzT (kvs:List (List Key×D))
 |insL (c:Str) (fss:List (List (Str×D)))
inductive W where
 |val (d:D)|vw (xs:List D)|vd (xs:List (Key×D))|exc (x:Str×List (Str×Int))|scr (ns:List Int)|pen|tmp (d:D)|own (o:O)
abbrev DSt:=List (Option W)
def zsa:Option W->Option W
 |some (.tmp _)=>none
 |w=>w
def clr(σ:DSt):DSt:=σ.map zsa
section
variable (K:PySem.W.Frag)
def RepL(H:Hp)(xs:List D)(v:V):Prop:=∃a vs,v=.ref a/\Rd H a (.lst vs)/\Reps K H xs vs
def RepT(H:Hp)(d:D)(v:V):Prop:=Rep K H d v\/∃xs,d=.list xs/\RepL K H xs v
def zfo{κ:Type}(K:PySem.W.Frag)(H:Hp)(ks:List (κ×D))(vs:List (κ×V)):Prop:=ks.map (·.1)=vs.map (·.1)/\Reps K H (ks.map (·.2)) (vs.map (·.2))
def Nst(H:Hp):List (List D)->List Addr->Prop
 |[],[]=>True
 |xs::xss,b::bs=>(∃vs,H b=some (.lst vs)/\Reps K H xs vs)/\Nst H xss bs
 |_,_=>False
def zv7(H:Hp)(c:Str)(fs:List (Str×D))(p:Addr×Addr):Prop:=∃C fv,PySem.W.nsIn K mainGlobals c=some (some (.ref C))/\H p.1=some (.ins C p.2 fv)/\H p.2=some (.own p.1)/\fv.map (·.1)=fs.map (·.1)/\Reps K H (fs.map (·.2)) (fv.map (·.2))
def InsR(H:Hp)(c:Str):List (List (Str×D))->List (Addr×Addr)->Prop
 |[],[]=>True
 |fs::fss,p::ps=>zv7 K H c fs p/\InsR H c fss ps
 |_,_=>False
def fpI:List (Addr×Addr)->List Addr
 |[]=>[]
 |p::ps=>p.1::p.2::fpI ps
def MxR(H:Hp):List Mx->List V->List Addr->Prop
 |[],[],[]=>True
 |.v d::ms,u::us,bs=>Rep K H d u/\MxR H ms us bs
 |.l xs::ms,u::us,b::bs=>u=.ref b/\(∃vs,H b=some (.lst vs)/\Reps K H xs vs)/\MxR H ms us bs
 |_,_,_=>False
def RepO(H:Hp):O->V->List Addr->Prop
 |.mix ms,v,fp=>∃a us bs,v=.ref a/\fp=a::bs/\H a=some (.lst us)/\MxR K H ms us bs
 |.lst xs,v,fp=>∃a vs,v=.ref a/\fp = [a]/\H a=some (.lst vs)/\Reps K H xs vs
 |.dct ks,v,fp=>∃a vs,v=.ref a/\fp = [a]/\H a=some (.dK vs)/\zfo K H ks vs
 |.nst xss ds,v,fp=>∃a as us,v=.ref a/\fp=a::as/\H a=some (.lst (as.map V.ref++us))/\Nst K H xss as/\Reps K H ds us
 |.tk ks,v,fp=>∃a,v=.ref a/\fp = []/\H a=some (.tup (ks.map kV))
 |.dcT ks,v,fp=>∃a vs,v=.ref a/\fp = [a]/\H a=some (.dT vs)/\zfo K H ks vs
 |.dcD ks,v,fp=>∃a ps,v=.ref a/\fp = [a]/\H a=some (.mx (DcE a ps))/\ps.map (·.1)=ks.map (·.1)/\Reps K H (ks.map (·.1)) (ps.map λp=>V.ref p.2.1)/\Reps K H (ks.map (·.2)) (ps.map (·.2.2))
 |.insF c fs f xs,v,fp=>∃a dx C fv l vs,v=.ref a/\fp = [a,dx,l]/\PySem.W.nsIn K mainGlobals c=some (some (.ref C))/\H a=some (.ins C dx (fv ++ [(f,.ref l)]))/\H dx=some (.own a)/\fv.map (·.1)=fs.map (·.1)/\Reps K H (fs.map (·.2)) (fv.map (·.2))/\H l=some (.lst vs)/\Reps K H xs vs
 |.insL c fss,v,fp=>∃a ps,v=.ref a/\fp=a::fpI ps/\H a=some (.lst (ps.map λp=>V.ref p.1))/\InsR K H c fss ps
 |.fzT ks,v,fp=>∃a o vs,v=.ref a/\fp = []/\H a=some (.frz o (.dT vs))/\zfo K H ks vs
 |.anc a o,v,fp=>v=.ref a/\RepO H o v fp
 |.ins c fs,v,fp=>∃a dx C fv,v=.ref a/\fp = [a,dx]/\PySem.W.nsIn K mainGlobals c=some (some (.ref C))/\H a=some (.ins C dx fv)/\H dx=some (.own a)/\fv.map (·.1)=fs.map (·.1)/\Reps K H (fs.map (·.2)) (fv.map (·.2))
def RepD(H:Hp)(xs:List (Key×D))(v:V):Prop:=∃a vs,v=.ref a/\H a=some (.dK vs)/\zfo K H xs vs
def zv8(C:Addr)(od:Option Addr)(a:Addr):HO:=.ext λh=>∃oe,h.get? a=some oe/\oe.cls=.ref C/\oe.dict=od/\∃vs,oe.data=.fields vs
def RepX(H:Hp)(x:Str×List (Str×Int))(v:V):Prop:=∃a C od,v=.ref a/\PySem.W.nsIn K mainGlobals x.1=some (some (.ref C))/\H a=some (zv8 C od a)/\((x.2 = []/\od=none)\/∃d,od=some d/\H d=some (.xd (x.2.map λp=>(p.1,V.int p.2))))
inductive Slots(H₀ H:Hp):DSt->St->List Addr->Prop
 |nil:Slots H₀ H [] [] []
 |none {v:Option V}{ws:DSt}{vs:St}{fp:List Addr} (t:Slots H₀ H ws vs fp):Slots H₀ H (Option.none::ws) (v::vs) fp
 |val {d:D}{v:V}{ws:DSt}{vs:St}{fp:List Addr} (r:Rep K H d v) (t:Slots H₀ H ws vs fp):Slots H₀ H (some (.val d)::ws) (some v::vs) fp
 |vw {xs:List D}{v:V}{ws:DSt}{vs:St}{fp:List Addr} (r:RepL K H₀ xs v) (t:Slots H₀ H ws vs fp):Slots H₀ H (some (.vw xs)::ws) (some v::vs) fp
 |vd {xs:List (Key×D)}{v:V}{ws:DSt}{vs:St}{fp:List Addr} (r:RepD K H₀ xs v) (t:Slots H₀ H ws vs fp):Slots H₀ H (some (.vd xs)::ws) (some v::vs) fp
 |exc {xs:Str×List (Str×Int)}{v:V}{ws:DSt}{vs:St}{fp:List Addr} (r:RepX K H₀ xs v) (t:Slots H₀ H ws vs fp):Slots H₀ H (some (.exc xs)::ws) (some v::vs) fp
 |scr {ns:List Int}{a:Addr}{ws:DSt}{vs:St}{fp:List Addr} (r:SqL K H₀ a (ns.map V.int)) (t:Slots H₀ H ws vs fp):Slots H₀ H (some (.scr ns)::ws) (some (.ref a)::vs) fp
 |pen {a:Addr}{ws:DSt}{vs:St}{fp:List Addr} (r:H a=some (zap a)) (t:Slots H₀ H ws vs fp):Slots H₀ H (some .pen::ws) (some (.ref a)::vs) fp
 |tmp {d:D}{v:V}{ws:DSt}{vs:St}{fp:List Addr} (r:RepN K H d v) (t:Slots H₀ H ws vs fp):Slots H₀ H (some (.tmp d)::ws) (some v::vs) fp
 |own {o:O}{v:V}{f:List Addr}{ws:DSt}{vs:St}{fp:List Addr} (r:RepO K H o v f) (t:Slots H₀ H ws vs fp):Slots H₀ H (some (.own o)::ws) (some v::vs) (f++fp)
structure DOk(H₀ H:Hp)(σD:DSt)(σ:St):Prop where
 same:Same H₀ H
 slots:∃fp,Slots K H₀ H σD σ fp/\fp.Nodup/\∀a∈fp,H₀ a=none
end
section
variable {K:PySem.W.Frag}{H₀ H H':Hp}{σD:DSt}{σ:St}
theorem RepX.same(s:Same H H'){xs:Str×List (Str×Int)}{v:V}:RepX K H xs v->RepX K H' xs v:=by
 rintro ⟨a,C,od,rfl,n,h,r⟩;refine⟨a,C,od,rfl,n,s _ _ h,?_⟩;rcases r with r |⟨d,e,r⟩
 ·exact .inl r
 ·exact .inr ⟨d,e,s _ _ r⟩
theorem RepD.same(s:Same H H'){xs:List (Key×D)}{v:V}:RepD K H xs v->RepD K H' xs v:=by
 rintro ⟨a,vs,rfl,h,r⟩;exact⟨a,vs,rfl,s _ _ h,r.1,r.2.same s⟩
theorem RepL.same(s:Same H H'){xs:List D}{v:V}:RepL K H xs v->RepL K H' xs v:=by
 rintro ⟨a,vs,rfl,h,r⟩;refine⟨a,vs,rfl,?_,r.same s⟩;rcases h with h |⟨o,h⟩
 ·exact .inl (s _ _ h)
 ·exact .inr ⟨o,s _ _ h⟩
theorem RepT.same(s:Same H H'){d:D}{v:V}:RepT K H d v->RepT K H' d v
 |.inl h=>.inl (h.same s)
 |.inr ⟨xs,e,h⟩=>.inr ⟨xs,e,h.same s⟩
theorem Rep.top{d:D}{v:V}(h:Rep K H d v):RepT K H d v:=.inl h
theorem RepT.list{xs:List D}{v:V}(h:RepT K H (.list xs) v):RepL K H xs v:=by
 rcases h with h |⟨ys,e,h⟩
 ·cases h with
  |lst h r=>exact⟨_,_,rfl,.inr ⟨_,h⟩,r⟩
 ·cases e;exact h
theorem RepL.sq{xs:List D}{v:V}(h:RepL K H xs v):∃a vs,v=.ref a/\SqL K H a vs/\Reps K H xs vs:=by
 obtain⟨a,vs,rfl,h,r⟩:=h;exact⟨a,vs,rfl,.inl h,r⟩
theorem Nst.live:∀{xss:List (List D)}{as:List Addr},Nst K H xss as->∀b∈as,∃vs,H b=some (.lst vs)
 |[],[],_,b,hb=>by cases hb
 |_::_,_::_,h,b,hb=>by
  rcases List.mem_cons.mp hb with rfl|hb
  ·obtain⟨vs,e,_⟩:=h.1;exact⟨vs,e⟩
  ·exact Nst.live h.2 b hb
theorem Nst.keep(p:Pers H H'):∀{xss:List (List D)}{as:List Addr},(∀a∈as,∀u,H a=some u->H' a=some u)->Nst K H xss as->Nst K H' xss as
 |[],[],_,_=>trivial
 |_::_,b::_,k,h=>by
  obtain⟨⟨vs,e,r⟩,t⟩:=h;exact⟨⟨vs,k b List.mem_cons_self _ e,r.mono p⟩,Nst.keep p (λa ha=>k a (List.mem_cons_of_mem _ ha)) t⟩
theorem InsR.live{c:Str}:∀{fss:List (List (Str×D))}{ps:List (Addr×Addr)},InsR K H c fss ps->∀b∈fpI ps,∃u,H b=some u/\u.per=false
 |[],[],_,b,hb=>nomatch hb
 |[],_::_,h,_,_=>h.elim
 |_::_,[],h,_,_=>h.elim
 |fs::fss,p::ps,h,b,hb=>by
  obtain⟨⟨C,fv,_,e1,e2,_⟩,t⟩:=h;rcases List.mem_cons.mp hb with rfl|hb
  ·exact⟨_,e1,rfl⟩
  ·rcases List.mem_cons.mp hb with rfl|hb
   ·exact⟨_,e2,rfl⟩
   ·exact InsR.live t b hb
theorem InsR.keep{c:Str}(p:Pers H H'):∀{fss:List (List (Str×D))}{ps:List (Addr×Addr)},(∀a∈fpI ps,∀u,H a=some u->H' a=some u)->InsR K H c fss ps->InsR K H' c fss ps
 |[],[],_,_=>trivial
 |[],_::_,_,h=>h.elim
 |_::_,[],_,h=>h.elim
 |fs::fss,q::ps,k,h=>by
  obtain⟨⟨C,fv,n,e1,e2,e3,r⟩,t⟩:=h;exact⟨⟨C,fv,n,k _ List.mem_cons_self _ e1,k _ (List.mem_cons_of_mem _ List.mem_cons_self) _ e2,e3,r.mono p⟩,InsR.keep p (λa ha=>k a (List.mem_cons_of_mem _ (List.mem_cons_of_mem _ ha))) t⟩
theorem MxR.ind{P:List Mx->List V->List Addr->Prop}(n:P [] [] [])(hv:∀d ms u us bs,Rep K H d u->MxR K H ms us bs->P ms us bs->P (.v d::ms) (u::us) bs)
  (hl:∀xs ms u us b bs,u=.ref b->(∃vs,H b=some (.lst vs)/\Reps K H xs vs)->MxR K H ms us bs->P ms us bs->P (.l xs::ms) (u::us) (b::bs)) {ms:List Mx}{us:List V}{bs:List Addr} (h:MxR K H ms us bs):P ms us bs:=by
 induction ms generalizing us bs with
 |nil=>
  cases us with
  |nil=>
   cases bs with
   |nil=>exact n
   |cons b bs=>exact h.elim
  |cons u us=>exact h.elim
 |cons m ms ih=>
  cases m with
  |v d=>
   cases us with
   |nil=>exact h.elim
   |cons u us=>exact hv _ _ _ _ _ h.1 h.2 (ih h.2)
  |l xs=>
   cases us with
   |nil=>exact h.elim
   |cons u us=>
    cases bs with
    |nil=>exact h.elim
    |cons b bs=>exact hl _ _ _ _ _ _ h.1 h.2.1 h.2.2 (ih h.2.2)
theorem MxR.live{ms:List Mx}{us:List V}{bs:List Addr}(h:MxR K H ms us bs):∀b∈bs,∃vs,H b=some (.lst vs) :=
 h.ind (P:=λ_ _ bs=>∀b∈bs,∃vs,H b=some (.lst vs)) (λ_ hb=>nomatch hb) (λ_ _ _ _ _ _ _ j=>j) λxs ms u us c bs _ l _ j b hb=>by
  rcases List.mem_cons.mp hb with rfl|hb
  ·obtain⟨vs,e,_⟩:=l;exact⟨vs,e⟩
  ·exact j b hb
theorem MxR.keep(p:Pers H H'){ms:List Mx}{us:List V}{bs:List Addr}(k:∀a∈bs,∀u,H a=some u->H' a=some u)(h:MxR K H ms us bs):MxR K H' ms us bs :=
 h.ind (P:=λms us bs=>(∀a∈bs,∀u,H a=some u->H' a=some u)->MxR K H' ms us bs) (λ_=>trivial) (λ_ _ _ _ _ r _ j k=>⟨r.mono p,j k⟩) (λxs ms u us b bs e l _ j k=>by
  obtain⟨vs,e1,r⟩:=l;exact⟨e,⟨vs,k b List.mem_cons_self _ e1,r.mono p⟩,j λa ha=>k a (List.mem_cons_of_mem _ ha)⟩) k
theorem MxR.len{ms:List Mx}{us:List V}{bs:List Addr}(h:MxR K H ms us bs):ms.length=us.length :=
 h.ind (P:=λms us _=>ms.length=us.length) rfl (λ_ _ _ _ _ _ _ j=>congrArg (·+1) j) λ_ _ _ _ _ _ _ _ _ j=>congrArg (·+1) j
theorem RepO.live{o:O}{v:V}{f:List Addr}(h:RepO K H o v f):∀a∈f,∃u,H a=some u/\u.per=false:=by
 induction o with
 |anc a o ih=>exact ih h.2
 |tk ks=>
  obtain⟨a,rfl,rfl,e⟩:=h;intro b hb
  cases hb
 |insL c fss=>
  obtain⟨a,ps,rfl,rfl,e,r⟩:=h;intro b hb;rcases List.mem_cons.mp hb with rfl|hb
  ·exact⟨_,e,rfl⟩
  ·exact r.live b hb
 |fzT ks=>
  obtain⟨a,o,vs,rfl,rfl,e,r⟩:=h;intro b hb
  cases hb
 |dcT ks=>
  obtain⟨a,vs,rfl,rfl,e,r⟩:=h;intro b hb;rw[List.mem_singleton.mp hb];exact⟨_,e,rfl⟩
 |dcD ks=>
  obtain⟨a,ps,rfl,rfl,e,_⟩:=h;intro b hb;rw[List.mem_singleton.mp hb];exact⟨_,e,rfl⟩
 |insF c fs f xs=>
  obtain⟨a,dx,C,fv,l,vs,rfl,rfl,_,e1,e2,_,_,e3,_⟩:=h;intro b hb;simp only[List.mem_cons,List.not_mem_nil,or_false]at hb;rcases hb with rfl|rfl|rfl
  ·exact⟨_,e1,rfl⟩
  ·exact⟨_,e2,rfl⟩
  ·exact⟨_,e3,rfl⟩
 |mix ms=>
  obtain⟨a,us,bs,rfl,rfl,e,m⟩:=h;intro b hb;rcases List.mem_cons.mp hb with rfl|hb
  ·exact⟨_,e,rfl⟩
  ·obtain⟨vs,e2⟩:=m.live b hb;exact⟨_,e2,rfl⟩
 |ins c fs=>
  obtain⟨a,dx,C,fv,rfl,rfl,_,e1,e2,_⟩:=h;intro b hb;simp only[List.mem_cons,List.not_mem_nil,or_false]at hb;rcases hb with rfl|rfl
  ·exact⟨_,e1,rfl⟩
  ·exact⟨_,e2,rfl⟩
 |lst xs=>
  obtain⟨a,vs,rfl,rfl,e,r⟩:=h;intro b hb;rw[List.mem_singleton.mp hb];exact⟨_,e,rfl⟩
 |dct ks=>
  obtain⟨a,vs,rfl,rfl,e,r⟩:=h;intro b hb;rw[List.mem_singleton.mp hb];exact⟨_,e,rfl⟩
 |nst xss ds=>
  obtain⟨a,as,us,rfl,rfl,e,n,r⟩:=h;intro b hb;rcases List.mem_cons.mp hb with rfl|hb
  ·exact⟨_,e,rfl⟩
  ·obtain⟨vs,e2⟩:=n.live b hb;exact⟨_,e2,rfl⟩
theorem RepO.keep{o:O}{v:V}{f:List Addr}(p:Pers H H')(k:∀a∈f,∀u,H a=some u->H' a=some u)(h:RepO K H o v f):RepO K H' o v f:=by
 induction o with
 |anc a o ih=>exact⟨h.1,ih h.2⟩
 |tk ks=>
  obtain⟨a,rfl,rfl,e⟩:=h;exact⟨a,rfl,rfl,p _ _ e rfl⟩
 |insL c fss=>
  obtain⟨a,ps,rfl,rfl,e,r⟩:=h;exact⟨a,ps,rfl,rfl,k a List.mem_cons_self _ e,r.keep p λb hb=>k b (List.mem_cons_of_mem _ hb)⟩
 |fzT ks=>
  obtain⟨a,o,vs,rfl,rfl,e,r⟩:=h;exact⟨a,o,vs,rfl,rfl,p _ _ e rfl,r.1,r.2.mono p⟩
 |dcT ks=>
  obtain⟨a,vs,rfl,rfl,e,r⟩:=h;exact⟨a,vs,rfl,rfl,k a (by simp) _ e,r.1,r.2.mono p⟩
 |dcD ks=>
  obtain⟨a,ps,rfl,rfl,e,ek,rk,rv⟩:=h;exact⟨a,ps,rfl,rfl,k a (by simp) _ e,ek,rk.mono p,rv.mono p⟩
 |insF c fs f xs=>
  obtain⟨a,dx,C,fv,l,vs,rfl,rfl,n,e1,e2,e3,r,e4,r2⟩:=h;exact⟨a,dx,C,fv,l,vs,rfl,rfl,n,k a (by simp) _ e1,k dx (by simp) _ e2,e3,r.mono p,k l (by simp) _ e4,r2.mono p⟩
 |mix ms=>
  obtain⟨a,us,bs,rfl,rfl,e,m⟩:=h;exact⟨a,us,bs,rfl,rfl,k a List.mem_cons_self _ e,m.keep p λb hb=>k b (List.mem_cons_of_mem _ hb)⟩
 |ins c fs=>
  obtain⟨a,dx,C,fv,rfl,rfl,n,e1,e2,e3,r⟩:=h;exact⟨a,dx,C,fv,rfl,rfl,n,k a (by simp) _ e1,k dx (by simp) _ e2,e3,r.mono p⟩
 |lst xs=>
  obtain⟨a,vs,rfl,rfl,e,r⟩:=h;exact⟨a,vs,rfl,rfl,k a (by simp) _ e,r.mono p⟩
 |dct ks=>
  obtain⟨a,vs,rfl,rfl,e,r⟩:=h;exact⟨a,vs,rfl,rfl,k a (by simp) _ e,r.1,r.2.mono p⟩
 |nst xss ds=>
  obtain⟨a,as,us,rfl,rfl,e,n,r⟩:=h;exact⟨a,as,us,rfl,rfl,k a List.mem_cons_self _ e,n.keep p λb hb=>k b (List.mem_cons_of_mem _ hb),r.mono p⟩
theorem Slots.live{fp:List Addr}(h:Slots K H₀ H σD σ fp):∀a∈fp,∃u,H a=some u/\u.per=false:=by
 induction h with
 |nil=>intro a ha;cases ha
 |none _ ih=>exact ih
 |val _ _ ih=>exact ih
 |vw _ _ ih=>exact ih
 |vd _ _ ih=>exact ih
 |exc _ _ ih=>exact ih
 |scr _ _ ih=>exact ih
 |pen _ _ ih=>exact ih
 |tmp _ _ ih=>exact ih
 |own r _ ih=>
  intro a ha;rcases List.mem_append.mp ha with z|z
  ·exact r.live a z
  ·exact ih a z
theorem Slots.keep{fp:List Addr}(p:Pers H H')(kn:∀{d:D}{v:V},RepN K H d v->RepN K H' d v)(k:∀a∈fp,∀u,H a=some u->H' a=some u)(h:Slots K H₀ H σD σ fp):Slots K H₀ H' σD σ fp:=by
 induction h with
 |nil=>exact .nil
 |none _ ih=>exact .none (ih k)
 |val r _ ih=>exact .val (r.mono p) (ih k)
 |vw r _ ih=>exact .vw r (ih k)
 |vd r _ ih=>exact .vd r (ih k)
 |exc r _ ih=>exact .exc r (ih k)
 |scr r _ ih=>exact .scr r (ih k)
 |pen r _ ih=>exact .pen (p _ _ r rfl) (ih k)
 |tmp r _ ih=>exact .tmp (kn r) (ih k)
 |own r _ ih=>exact .own (r.keep p λa ha=>k a (List.mem_append_left _ ha)) (ih λa ha=>k a (List.mem_append_right _ ha))
theorem Slots.keepC{fp:List Addr}(p:Pers H H')(k:∀a∈fp,∀u,H a=some u->H' a=some u)(h:Slots K H₀ H σD σ fp):Slots K H₀ H' (clr σD) σ fp:=by
 induction h with
 |nil=>exact .nil
 |none _ ih=>exact .none (ih k)
 |val r _ ih=>exact .val (r.mono p) (ih k)
 |vw r _ ih=>exact .vw r (ih k)
 |vd r _ ih=>exact .vd r (ih k)
 |exc r _ ih=>exact .exc r (ih k)
 |scr r _ ih=>exact .scr r (ih k)
 |pen r _ ih=>exact .pen (p _ _ r rfl) (ih k)
 |tmp r _ ih=>exact .none (ih k)
 |own r _ ih=>exact .own (r.keep p λa ha=>k a (List.mem_append_left _ ha)) (ih λa ha=>k a (List.mem_append_right _ ha))
theorem Slots.length{fp:List Addr}(h:Slots K H₀ H σD σ fp):σD.length=σ.length:=by
 induction h with
 |nil=>rfl
 |none _ ih=>simp[ih]
 |val _ _ ih=>simp[ih]
 |vw _ _ ih=>simp[ih]
 |vd _ _ ih=>simp[ih]
 |exc _ _ ih=>simp[ih]
 |scr _ _ ih=>simp[ih]
 |pen _ _ ih=>simp[ih]
 |tmp _ _ ih=>simp[ih]
 |own _ _ ih=>simp[ih]
theorem DOk.after(s:Same H H')(h:DOk K H₀ H σD σ):DOk K H₀ H' σD σ:=by
 obtain⟨s0,fp,sl,nd,fr⟩:=h;exact⟨s0.trans s,fp,sl.keep s.pers (λh=>h.same s) λa _ u e=>s a u e,nd,fr⟩
theorem DOk.len(h:DOk K H₀ H σD σ):σD.length=σ.length:=let ⟨_,_,sl,_⟩:=h;sl.length
theorem Slots.get{fp:List Addr}(h:Slots K H₀ H σD σ fp):∀{i:Nat}{w:W},σD[i]?=some (some w)->∃v,σ[i]?=some (some v)/\match w with
  |.val d=>Rep K H d v
  |.vw xs=>RepL K H₀ xs v
  |.vd xs=>RepD K H₀ xs v
  |.exc xs=>RepX K H₀ xs v
  |.scr ns=>∃a,v=.ref a/\SqL K H₀ a (ns.map V.int)
  |.pen=>∃a,v=.ref a/\H a=some (zap a)
  |.tmp d=>RepN K H d v
  |.own o=>∃f,RepO K H o v f/\∀a∈f,a∈fp:=by
 induction h with
 |nil=>intro i w e;simp at e
 |none _ ih=>
  intro i w e
  cases i with
  |zero=>simp at e
  |succ i=>exact ih (by simpa using e)
 |val r _ ih=>
  intro i w e
  cases i with
  |zero=>simp at e;subst e;exact⟨_,rfl,r⟩
  |succ i=>exact ih (by simpa using e)
 |vw r _ ih=>
  intro i w e
  cases i with
  |zero=>simp at e;subst e;exact⟨_,rfl,r⟩
  |succ i=>exact ih (by simpa using e)
 |vd r _ ih=>
  intro i w e
  cases i with
  |zero=>simp at e;subst e;exact⟨_,rfl,r⟩
  |succ i=>exact ih (by simpa using e)
 |exc r _ ih=>
  intro i w e
  cases i with
  |zero=>simp at e;subst e;exact⟨_,rfl,r⟩
  |succ i=>exact ih (by simpa using e)
 |scr r _ ih=>
  intro i w e
  cases i with
  |zero=>simp at e;subst e;exact⟨_,rfl,_,rfl,r⟩
  |succ i=>exact ih (by simpa using e)
 |pen r _ ih=>
  intro i w e
  cases i with
  |zero=>simp at e;subst e;exact⟨_,rfl,_,rfl,r⟩
  |succ i=>exact ih (by simpa using e)
 |tmp r _ ih=>
  intro i w e
  cases i with
  |zero=>simp at e;subst e;exact⟨_,rfl,r⟩
  |succ i=>exact ih (by simpa using e)
 |own r _ ih=>
  intro i w e
  cases i with
  |zero=>simp at e;subst e;exact⟨_,rfl,_,r,λa ha=>List.mem_append_left _ ha⟩
  |succ i=>
   obtain⟨v,e1,e2⟩:=ih (by simpa using e);refine⟨v,e1,?_⟩
   cases w with
   |val d=>exact e2
   |vw xs=>exact e2
   |vd xs=>exact e2
   |exc xs=>exact e2
   |scr ns=>exact e2
   |pen=>exact e2
   |tmp d=>exact e2
   |own o=>obtain⟨f,r,m⟩:=e2;exact⟨f,r,λa ha=>List.mem_append_right _ (m a ha)⟩
theorem DOk.val(h:DOk K H₀ H σD σ){i:Nat}{d:D}(e:σD[i]?=some (some (.val d))):∃v,σ[i]?=some (some v)/\Rep K H d v:=let ⟨_,_,sl,_⟩:=h;sl.get e
theorem DOk.vw(h:DOk K H₀ H σD σ){i:Nat}{xs:List D}(e:σD[i]?=some (some (.vw xs))):∃v,σ[i]?=some (some v)/\RepL K H xs v:=by
 obtain⟨s,_,sl,_⟩:=h;obtain⟨v,e1,e2⟩:=sl.get e;exact⟨v,e1,RepL.same s e2⟩
theorem DOk.vd(h:DOk K H₀ H σD σ){i:Nat}{xs:List (Key×D)}(e:σD[i]?=some (some (.vd xs))):∃v,σ[i]?=some (some v)/\RepD K H xs v:=by
 obtain⟨s,_,sl,_⟩:=h;obtain⟨v,e1,e2⟩:=sl.get e;exact⟨v,e1,RepD.same s e2⟩
theorem DOk.exc(h:DOk K H₀ H σD σ){i:Nat}{xs:Str×List (Str×Int)}(e:σD[i]?=some (some (.exc xs))):∃v,σ[i]?=some (some v)/\RepX K H xs v:=by
 obtain⟨s,_,sl,_⟩:=h;obtain⟨v,e1,e2⟩:=sl.get e;exact⟨v,e1,RepX.same s e2⟩
theorem DOk.scr(h:DOk K H₀ H σD σ){i:Nat}{ns:List Int}(e:σD[i]?=some (some (.scr ns))):∃a,σ[i]?=some (some (.ref a))/\SqL K H a (ns.map V.int):=by
 obtain⟨s,_,sl,_⟩:=h;obtain⟨v,e1,a,rfl,e2⟩:=sl.get e;exact⟨a,e1,s.seq e2⟩
theorem DOk.pen(h:DOk K H₀ H σD σ){i:Nat}(e:σD[i]?=some (some .pen)):∃a,σ[i]?=some (some (.ref a))/\H a=some (zap a):=by
 obtain⟨s,_,sl,_⟩:=h;obtain⟨v,e1,a,rfl,e2⟩:=sl.get e;exact⟨a,e1,e2⟩
theorem DOk.tmp(h:DOk K H₀ H σD σ){i:Nat}{d:D}(e:σD[i]?=some (some (.tmp d))):∃v,σ[i]?=some (some v)/\RepN K H d v:=let ⟨_,_,sl,_⟩:=h;sl.get e
theorem DOk.ownL(h:DOk K H₀ H σD σ){i:Nat}{xs:List D}(e:σD[i]?=some (some (.own (.lst xs)))):∃a vs,σ[i]?=some (some (.ref a))/\H a=some (.lst vs)/\Reps K H xs vs/\H₀ a=none:=by
 obtain⟨s,fp,sl,nd,fr⟩:=h;obtain⟨v,e1,f,⟨a,vs,rfl,rfl,e2,r⟩,m⟩:=sl.get e;exact⟨a,vs,e1,e2,r,fr a (m a (by simp))⟩
theorem DOk.ownD(h:DOk K H₀ H σD σ){i:Nat}{xs:List (Key×D)}(e:σD[i]?=some (some (.own (.dct xs)))):∃a vs,σ[i]?=some (some (.ref a))/\H a=some (.dK vs)/\zfo K H xs vs/\H₀ a=none:=by
 obtain⟨s,fp,sl,nd,fr⟩:=h;obtain⟨v,e1,f,⟨a,vs,rfl,rfl,e2,r⟩,m⟩:=sl.get e;exact⟨a,vs,e1,e2,r,fr a (m a (by simp))⟩
theorem Slots.set{fp f:List Addr}(h:Slots K H₀ H σD σ fp){w:Option W}{v:Option V}(hw:∀{ws:DSt}{vs:St}{g:List Addr},Slots K H₀ H ws vs g->Slots K H₀ H (w::ws) (v::vs) (f++g)):
  ∀(i:Nat),i<σD.length->∃g g',Slots K H₀ H (σD.set i w) (σ.set i v) (g++(f++g'))/\(g++g').Sublist fp:=by
 induction h with
 |nil=>intro i hi;exact absurd hi (Nat.not_lt_zero _)
 |none t ih=>
  intro i hi
  cases i with
  |zero=>exact⟨[],_,hw t,List.Sublist.refl _⟩
  |succ i=>obtain⟨g,g',e,s⟩:=ih i (Nat.lt_of_succ_lt_succ hi);exact⟨g,g',.none e,s⟩
 |val r t ih=>
  intro i hi
  cases i with
  |zero=>exact⟨[],_,hw t,List.Sublist.refl _⟩
  |succ i=>obtain⟨g,g',e,s⟩:=ih i (Nat.lt_of_succ_lt_succ hi);exact⟨g,g',.val r e,s⟩
 |vw r t ih=>
  intro i hi
  cases i with
  |zero=>exact⟨[],_,hw t,List.Sublist.refl _⟩
  |succ i=>obtain⟨g,g',e,s⟩:=ih i (Nat.lt_of_succ_lt_succ hi);exact⟨g,g',.vw r e,s⟩
 |vd r t ih=>
  intro i hi
  cases i with
  |zero=>exact⟨[],_,hw t,List.Sublist.refl _⟩
  |succ i=>obtain⟨g,g',e,s⟩:=ih i (Nat.lt_of_succ_lt_succ hi);exact⟨g,g',.vd r e,s⟩
 |exc r t ih=>
  intro i hi
  cases i with
  |zero=>exact⟨[],_,hw t,List.Sublist.refl _⟩
  |succ i=>obtain⟨g,g',e,s⟩:=ih i (Nat.lt_of_succ_lt_succ hi);exact⟨g,g',.exc r e,s⟩
 |scr r t ih=>
  intro i hi
  cases i with
  |zero=>exact⟨[],_,hw t,List.Sublist.refl _⟩
  |succ i=>obtain⟨g,g',e,s⟩:=ih i (Nat.lt_of_succ_lt_succ hi);exact⟨g,g',.scr r e,s⟩
 |pen r t ih=>
  intro i hi
  cases i with
  |zero=>exact⟨[],_,hw t,List.Sublist.refl _⟩
  |succ i=>obtain⟨g,g',e,s⟩:=ih i (Nat.lt_of_succ_lt_succ hi);exact⟨g,g',.pen r e,s⟩
 |tmp r t ih=>
  intro i hi
  cases i with
  |zero=>exact⟨[],_,hw t,List.Sublist.refl _⟩
  |succ i=>obtain⟨g,g',e,s⟩:=ih i (Nat.lt_of_succ_lt_succ hi);exact⟨g,g',.tmp r e,s⟩
 |@own o v' f' ws vs fp' r t ih=>
  intro i hi
  cases i with
  |zero=>exact⟨[],_,hw t,List.sublist_append_right _ _⟩
  |succ i=>
   obtain⟨g,g',e,s⟩:=ih i (Nat.lt_of_succ_lt_succ hi);refine⟨f'++g,g',?_,?_⟩
   ·rw[List.append_assoc];exact .own r e
   ·rw[List.append_assoc];exact(List.Sublist.refl _).append s
theorem DOk.put(h:DOk K H₀ H σD σ){w:Option W}{v:Option V}(hw:∀{ws:DSt}{vs:St}{g:List Addr},Slots K H₀ H ws vs g->Slots K H₀ H (w::ws) (v::vs) g)(i:Nat):DOk K H₀ H (σD.set i w) (σ.set i v):=by
 obtain⟨s,fp,sl,nd,fr⟩:=h
 by_cases hi:i<σD.length
 ·obtain⟨g,g',e,sb⟩:=sl.set (f:=[]) hw i hi;rw[List.nil_append]at e;exact⟨s,_,e,sb.nodup nd,λa ha=>fr a (sb.subset ha)⟩
 ·rw[List.set_eq_of_length_le (by lia),List.set_eq_of_length_le (by rw[<-sl.length];lia)];exact⟨s,fp,sl,nd,fr⟩
theorem DOk.setV(h:DOk K H₀ H σD σ){d:D}{v:V}(r:Rep K H d v)(i:Nat):DOk K H₀ H (σD.set i (some (.val d))) (σ.set i (some v)):=h.put (.val r) i
theorem DOk.setO{H1:Hp}(h:DOk K H₀ H1 σD σ)(s1:Same H1 H){a:Addr}{vs:List V}{xs:List D}(n:H1 a=none)(e:H a=some (.lst vs))(r:Reps K H xs vs)(i:Nat):DOk K H₀ H (σD.set i (some (.own (.lst xs)))) (σ.set i (some (.ref a))):=by
 obtain⟨s,fp,sl,nd,fr⟩:=id h;have lv:∀b∈fp,b≠a:=λb hb z=>by
  obtain⟨u,e1,_⟩:=sl.live b hb;rw[z,n]at e1;cases e1
 obtain⟨s',fp',sl',_⟩:=id (h.after s1);have sl2:Slots K H₀ H σD σ fp:=sl.keep s1.pers (λh=>h.same s1) λb _ u e=>s1 b u e
 by_cases hi:i<σD.length
 ·obtain⟨g,g',e',sb⟩:=sl2.set (f:=[a]) (w:=some (.own (.lst xs))) (v:=some (.ref a)) (λt=>.own ⟨a,vs,rfl,rfl,e,r⟩ t) i hi;refine⟨s',_,e',?_,λb hb=>?_⟩
  ·have nd2:=sb.nodup nd;rw[List.nodup_append]at nd2 ⊢;refine⟨nd2.1,?_,λx hx y hy=>?_⟩
   ·rw[List.singleton_append,List.nodup_cons];exact⟨λz=>lv a (sb.subset (List.mem_append_right _ z)) rfl,nd2.2.1⟩
   ·rcases List.mem_append.mp hy with z|z
    ·rw[List.mem_singleton.mp z];exact lv x (sb.subset (List.mem_append_left _ hx))
    ·exact nd2.2.2 x hx y z
  ·rcases List.mem_append.mp hb with z|z
   ·exact fr b (sb.subset (List.mem_append_left _ z))
   ·rcases List.mem_append.mp z with z|z
    ·rw[List.mem_singleton.mp z]
     cases q:H₀ a with
     |none=>rfl
     |some u=>rw[s a u q]at n;cases n
    ·exact fr b (sb.subset (List.mem_append_right _ z))
 ·rw[List.set_eq_of_length_le (by lia),List.set_eq_of_length_le (by rw[<-sl2.length];lia)];exact⟨s',fp,sl2,nd,fr⟩
theorem Slots.write{fp:List Addr}(h:Slots K H₀ H σD σ fp)(nd:fp.Nodup){i:Nat}{xs ys:List D}{a:Addr}{vs:List V}(e:σD[i]?=some (some (.own (.lst xs))))(ev:σ[i]?=some (some (.ref a)))(ea:∃zs,H a=some (.lst zs))(r:Reps K H ys vs):
  Slots K H₀ (upd H a (.lst vs)) (clr (σD.set i (some (.own (.lst ys))))) σ fp:=by
 have ps:Pers H (upd H a (.lst vs)):=λb o hb hp=>by
  obtain⟨zs,ea⟩:=ea;rw[zv (λz=>by rw[z,ea]at hb;cases hb;cases hp)];exact hb
 induction h generalizing i with
 |nil=>simp at e
 |none t ih=>
  cases i with
  |zero=>simp at e
  |succ i=>exact .none (ih nd (by simpa using e) (by simpa using ev))
 |val q t ih=>
  cases i with
  |zero=>simp at e
  |succ i=>exact .val (q.mono ps) (ih nd (by simpa using e) (by simpa using ev))
 |vw q t ih=>
  cases i with
  |zero=>simp at e
  |succ i=>exact .vw q (ih nd (by simpa using e) (by simpa using ev))
 |vd q t ih=>
  cases i with
  |zero=>simp at e
  |succ i=>exact .vd q (ih nd (by simpa using e) (by simpa using ev))
 |exc q t ih=>
  cases i with
  |zero=>simp at e
  |succ i=>exact .exc q (ih nd (by simpa using e) (by simpa using ev))
 |scr q t ih=>
  cases i with
  |zero=>simp at e
  |succ i=>exact .scr q (ih nd (by simpa using e) (by simpa using ev))
 |pen q t ih=>
  cases i with
  |zero=>simp at e
  |succ i=>exact .pen (ps _ _ q rfl) (ih nd (by simpa using e) (by simpa using ev))
 |tmp q t ih=>
  cases i with
  |zero=>simp at e
  |succ i=>exact .none (ih nd (by simpa using e) (by simpa using ev))
 |@own o v f ws wvs fp' q t ih=>
  rw[List.nodup_append]at nd
  cases i with
  |zero=>
   simp at e ev;subst e ev;obtain⟨b,zs,eb,rfl,hb,rb⟩:=q
   cases eb;refine .own ⟨a,vs,rfl,rfl,zq,r.mono ps⟩ (t.keepC ps λc hc u hu=>?_);rw[zv (λz=>nd.2.2 a (by simp) c hc z.symm)];exact hu
  |succ i=>
   have e':ws[i]?=some (some (.own (.lst xs))):=by simpa using e
   have ev':wvs[i]?=some (some (.ref a)):=by simpa using ev
   refine .own (q.keep ps λc hc u hu=>?_) (ih nd.2.1 e' ev');obtain⟨v',e1,f',⟨b,zs,rfl,rfl,hb,rb⟩,m⟩:=t.get e';rw[ev']at e1
   cases e1;rw[zv (λz=>nd.2.2 c hc a (m a (by simp)) z)];exact hu
theorem y9{a:Addr}{o o':HO}(e:H a=some o)(p:o.per=false):Pers H (upd H a o'):=λb u hb hp=>by
 rw[zv (λz=>by rw[z,e]at hb;cases hb;rw[p]at hp;cases hp)];exact hb
theorem DOk.write(h:DOk K H₀ H σD σ){i:Nat}{xs ys:List D}{a:Addr}{vs zs:List V}(e:σD[i]?=some (some (.own (.lst xs))))(ev:σ[i]?=some (some (.ref a)))(ea:H a=some (.lst zs))(r:Reps K H ys vs):DOk K H₀ (upd H a (.lst vs)) (clr (σD.set i (some (.own (.lst ys))))) σ:=by
 obtain⟨a',_,e1,_,_,n⟩:=h.ownL e;rw[ev]at e1
 cases e1;obtain⟨s,fp,sl,nd,fr⟩:=h;refine⟨λb o hb=>?_,fp,sl.write nd e ev ⟨_,ea⟩ r,nd,fr⟩;rw[zv (λz=>by rw[z,n]at hb;cases hb)];exact s b o hb
end
section
variable {X:Cx}{pins:List (Addr×Obj)}{σ:St}{H:Hp}{s:Shared}{a:Addr}
theorem Inv.frz(I:Inv X pins σ H s){vs:List V}(h:H a=some (.lst vs)):∃o,Inv X pins σ (upd H a (.frz o (.lst vs))) s:=by
 obtain⟨z,its,n,r,e⟩:=I.hok a _ h;exact⟨_,I.write (h':=s.heap) (t':=s.toks) (x:=a) (e:=a) (by rw[h];exact trivial) (.inl rfl) (λb u _ q=>q) ⟨_,e⟩ ⟨e,z,its,n,r,e⟩⟩
theorem zi3{P:Program}{w:World}{h:Heap}{x y z:Int}{tx ty tz:Tok}{n:Nat}(e:h.get? a=some { cls:=.type "list",data:=.seq #[.int x tx,.int y ty,.int z tz] n }):ObjOk P w H h a (zap a) :=
 ⟨⟨x,y,z,tx,ty,tz,n,e⟩,⟨_,e⟩,λh1 h2 ⟨x,y,z,tx,ty,tz,n,e⟩ k=>⟨x,y,z,tx,ty,tz,n,k _ e⟩⟩
theorem Inv.toPen(I:Inv X pins σ H s){x y z:Int}(h:H a=some (.lst [.int x,.int y,.int z])):Inv X pins σ (upd H a (zap a)) s:=by
 obtain⟨zz,its,n,r,e⟩:=I.hok a _ h
 cases r with
 |cons r1 r=>
  cases r with
  |cons r2 r=>
   cases r with
   |cons r3 r=>
    cases r;obtain⟨t1,rfl⟩:=r1;obtain⟨t2,rfl⟩:=r2;obtain⟨t3,rfl⟩:=r3;exact I.write (h':=s.heap) (t':=s.toks) (x:=a) (e:=a) (by rw[h];exact trivial) (.inl rfl) (λb u _ q=>q) ⟨_,e⟩ (zi3 e)
end
abbrev DTE:=DSt->(D->Prop)->Prop
abbrev DTF:=DSt->(List D->Prop)->Prop
abbrev DTT:=DSt->(Bool->Prop)->Prop
abbrev DTP:=DSt->(List W->Prop)->Prop
def DEnd(X:Cx)(pins:List (Addr×Obj))(σ:St)(H:Hp)(Q:D->Prop)(u:Value)(s':Shared):Prop:=∃v H' d,Inv X pins σ H' s'/\RelV v u/\Same H H'/\Rep X.K H' d v/\Q d
def zuv(X:Cx)(pins:List (Addr×Obj))(σ:St)(H:Hp)(Q:D->Prop)(u:Value)(s':Shared):Prop:=∃v H' d,Inv X pins σ H' s'/\RelV v u/\Same H H'/\RepT X.K H' d v/\Q d
def zfp(X:Cx)(pins:List (Addr×Obj))(σ:St)(H:Hp)(Q:List D->Prop)(u:Value)(s':Shared):Prop:=∃a H' vs xs,u=.ref a/\Inv X pins σ H' s'/\Same H H'/\H a=none/\H' a=some (.lst vs)/\Reps X.K H' xs vs/\Q xs
structure DE(X:Cx)(e:Expr)(t:DTE):Prop where
 run:∀(pins:List (Addr×Obj)) (s:Shared) (σ:St) (H H₀:Hp) (σD:DSt) (Q:D->Prop),Inv X pins σ H s->DOk X.K H₀ H σD σ->t σD Q->wpAny (model X.prog X.w) X.A (eval e X.env) (DEnd X pins σ H Q) X.xe s
structure DV(X:Cx)(e:Expr)(t:DTE):Prop where
 run:∀(pins:List (Addr×Obj)) (s:Shared) (σ:St) (H H₀:Hp) (σD:DSt) (Q:D->Prop),Inv X pins σ H s->DOk X.K H₀ H σD σ->t σD Q->wpAny (model X.prog X.w) X.A (eval e X.env) (zuv X pins σ H Q) X.xe s
structure DF(X:Cx)(e:Expr)(t:DTF):Prop where
 run:∀(pins:List (Addr×Obj)) (s:Shared) (σ:St) (H H₀:Hp) (σD:DSt) (Q:List D->Prop),Inv X pins σ H s->DOk X.K H₀ H σD σ->t σD Q->wpAny (model X.prog X.w) X.A (eval e X.env) (zfp X pins σ H Q) X.xe s
def zqu(X:Cx)(pins:List (Addr×Obj))(σ:St)(H:Hp)(Q:Bool->Prop)(b:Bool)(s':Shared):Prop:=∃H',Inv X pins σ H' s'/\Same H H'/\Q b
structure DT(X:Cx)(e:Expr)(t:DTT):Prop where
 run:∀(pins:List (Addr×Obj)) (s:Shared) (σ:St) (H H₀:Hp) (σD:DSt) (Q:Bool->Prop),Inv X pins σ H s->DOk X.K H₀ H σD σ->t σD Q->wpAny (model X.prog X.w) X.A (isTrue e X.env (eval e X.env)) (zqu X pins σ H Q) X.xe s
structure DWt(X:Cx)(e:Expr)(t:DTT):Prop where
 run:∀(whole:Sem Value) (pins:List (Addr×Obj)) (s:Shared) (σ:St) (H H₀:Hp) (σD:DSt) (Q:Bool->Prop),Inv X pins σ H s->DOk X.K H₀ H σD σ->t σD Q->wpAny (model X.prog X.w) X.A (isTrue e X.env whole) (zqu X pins σ H Q) X.xe s
structure DA(X:Cx)(es:List Expr)(t:DTF):Prop where
 run:∀(pos:Pos) (pins:List (Addr×Obj)) (s:Shared) (σ:St) (H H₀:Hp) (σD:DSt) (Q:List D->Prop),Inv X pins σ H s->DOk X.K H₀ H σD σ->t σD Q ->
  wpAny (model X.prog X.w) X.A (spliced (backTo pos (starEach es X.env))) (λus s'=>∃vs H' ds,Inv X pins σ H' s'/\Vals vs us/\Same H H'/\Reps X.K H' ds vs/\Q ds) X.xe s
inductive RepTs(K:PySem.W.Frag)(H:Hp):List D->List V->Prop
 |nil:RepTs K H [] []
 |cons {d:D}{v:V}{ds:List D}{vs:List V} (r:RepT K H d v) (t:RepTs K H ds vs):RepTs K H (d::ds) (v::vs)
structure DAv(X:Cx)(es:List Expr)(t:DTF):Prop where
 run:∀(pos:Pos) (pins:List (Addr×Obj)) (s:Shared) (σ:St) (H H₀:Hp) (σD:DSt) (Q:List D->Prop),Inv X pins σ H s->DOk X.K H₀ H σD σ->t σD Q ->
  wpAny (model X.prog X.w) X.A (spliced (backTo pos (starEach es X.env))) (λus s'=>∃vs H' ds,Inv X pins σ H' s'/\Vals vs us/\Same H H'/\RepTs X.K H' ds vs/\Q ds) X.xe s
section
variable (K:PySem.W.Frag)
def zv9(H:Hp):W->V->Prop
 |.val d,v=>Rep K H d v
 |.vw xs,v=>RepL K H xs v
 |.vd xs,v=>RepD K H xs v
 |.exc xs,v=>RepX K H xs v
 |.scr ns,v=>∃a,v=.ref a/\SqL K H a (ns.map V.int)
 |.pen,v=>∃a,v=.ref a/\H a=some (zap a)
 |.tmp _,_=>False
 |.own _,_=>False
inductive RepWs(H:Hp):List W->List V->Prop
 |nil:RepWs H [] []
 |cons {w:W}{v:V}{ws:List W}{vs:List V} (r:zv9 K H w v) (t:RepWs H ws vs):RepWs H (w::ws) (v::vs)
end
theorem RepWs.length{K:PySem.W.Frag}{H:Hp}{ws:List W}{vs:List V}(h:RepWs K H ws vs):ws.length=vs.length:=by
 induction h with
 |nil=>rfl
 |cons _ _ ih=>simp[ih]
structure DPs(X:Cx)(es:List Expr)(t:DTP):Prop where
 run:∀(pos:Pos) (pins:List (Addr×Obj)) (s:Shared) (σ:St) (H H₀:Hp) (σD:DSt) (Q:List W->Prop),Inv X pins σ H s->DOk X.K H₀ H σD σ->t σD Q ->
  wpAny (model X.prog X.w) X.A (spliced (backTo pos (starEach es X.env))) (λus s'=>∃vs H' ws,Inv X pins σ H' s'/\Vals vs us/\Same H H'/\RepWs X.K H' ws vs/\Q ws) X.xe s
section
variable (K:PySem.W.Frag)
def cnE(t:DTE):TE:=λσ H Q=>∃H₀ σD QD,DOk K H₀ H σD σ/\t σD QD/\∀v H' d,Same H H'->Rep K H' d v->QD d->Q v H'
def cnV(t:DTE):TE:=λσ H Q=>∃H₀ σD QD,DOk K H₀ H σD σ/\t σD QD/\∀v H' d,Same H H'->RepT K H' d v->QD d->Q v H'
def cnF(t:DTF):TE:=λσ H Q=>∃H₀ σD QD,DOk K H₀ H σD σ/\t σD QD/\∀a H' vs xs,Same H H'->H a=none->H' a=some (.lst vs)->Reps K H' xs vs->QD xs->Q (.ref a) H'
def cnT(t:DTT):TT:=λσ H Q=>∃H₀ σD QD,DOk K H₀ H σD σ/\t σD QD/\∀b H',Same H H'->QD b->Q b H'
def cnA(t:DTF):TA:=λσ H Q=>∃H₀ σD QD,DOk K H₀ H σD σ/\t σD QD/\∀vs H' ds,Same H H'->Reps K H' ds vs->QD ds->Q vs H'
def zwa(t:DTF):TA:=λσ H Q=>∃H₀ σD QD,DOk K H₀ H σD σ/\t σD QD/\∀vs H' ds,Same H H'->RepTs K H' ds vs->QD ds->Q vs H'
def cnP(t:DTP):TA:=λσ H Q=>∃H₀ σD QD,DOk K H₀ H σD σ/\t σD QD/\∀vs H' ws,Same H H'->RepWs K H' ws vs->QD ws->Q vs H'
end
section
variable {X:Cx}{e:Expr}{es:List Expr}
theorem DE.pe{t:DTE}(h:DE X e t):PE X e (cnE X.K t):=λpins s σ H Q I zq63=>by obtain⟨H₀,σD,QD,ok,q,k⟩:=zq63;exact thn (h.run pins s σ H H₀ σD QD I ok q) λu s' zq50=>by obtain⟨v,H',d,I',r,sm,rp,qd⟩:=zq50;exact⟨v,H',I',r,k v H' d sm rp qd⟩
theorem DV.pe{t:DTE}(h:DV X e t):PE X e (cnV X.K t):=λpins s σ H Q I zq63=>by obtain⟨H₀,σD,QD,ok,q,k⟩:=zq63;exact thn (h.run pins s σ H H₀ σD QD I ok q) λu s' zq50=>by obtain⟨v,H',d,I',r,sm,rp,qd⟩:=zq50;exact⟨v,H',I',r,k v H' d sm rp qd⟩
theorem DF.pe{t:DTF}(h:DF X e t):PE X e (cnF X.K t):=λpins s σ H Q I zq63=>by obtain⟨H₀,σD,QD,ok,q,k⟩:=zq63;exact thn (h.run pins s σ H H₀ σD QD I ok q) λu s' zq50=>by obtain⟨a,H',vs,xs,eu,I',sm,n,e,rp,qd⟩:=zq50;exact⟨.ref a,H',I',eu,k a H' vs xs sm n e rp qd⟩
theorem DT.pt{t:DTT}(h:DT X e t):PT X e (cnT X.K t):=λpins s σ H Q I zq63=>by obtain⟨H₀,σD,QD,ok,q,k⟩:=zq63;exact thn (h.run pins s σ H H₀ σD QD I ok q) λu s' zq50=>by obtain⟨H',I',sm,qd⟩:=zq50;exact⟨H',I',k u H' sm qd⟩
theorem DA.pa{t:DTF}(h:DA X es t):PA X es (cnA X.K t):=λpos pins s σ H Q I zq65=>by obtain⟨H₀,σD,QD,ok,q,k⟩:=zq65;exact thn (h.run pos pins s σ H H₀ σD QD I ok q) λus s' zq60=>by obtain⟨vs,H',ds,I',r,sm,rp,qd⟩:=zq60;exact⟨vs,H',I',r,k vs H' ds sm rp qd⟩
theorem DAv.pa{t:DTF}(h:DAv X es t):PA X es (zwa X.K t):=λpos pins s σ H Q I zq68=>by obtain⟨H₀,σD,QD,ok,q,k⟩:=zq68;exact thn (h.run pos pins s σ H H₀ σD QD I ok q) λus s' zq63=>by obtain⟨vs,H',ds,I',r,sm,rp,qd⟩:=zq63;exact⟨vs,H',I',r,k vs H' ds sm rp qd⟩
theorem DPs.pa{t:DTP}(h:DPs X es t):PA X es (cnP X.K t):=λpos pins s σ H Q I zq67=>by obtain⟨H₀,σD,QD,ok,q,k⟩:=zq67;exact thn (h.run pos pins s σ H H₀ σD QD I ok q) λus s' zq62=>by obtain⟨vs,H',ws,I',r,sm,rp,qd⟩:=zq62;exact⟨vs,H',I',r,k vs H' ws sm rp qd⟩
theorem DE.of{t:DTE}{t':TE}(h:PE X e t')(k:∀σ H H₀ σD QD,DOk X.K H₀ H σD σ->t σD QD->t' σ H (λv H'=>∃d,Same H H'/\Rep X.K H' d v/\QD d)):DE X e t :=
 ⟨λpins s σ H H₀ σD Q I ok q=>thn (h pins s σ H _ I (k σ H H₀ σD Q ok q)) λu s' zq80=>by obtain⟨v,H',I',r,d,sm,rp,qd⟩:=zq80;exact⟨v,H',d,I',r,sm,rp,qd⟩⟩
theorem DV.of{t:DTE}{t':TE}(h:PE X e t')(k:∀σ H H₀ σD QD,DOk X.K H₀ H σD σ->t σD QD->t' σ H (λv H'=>∃d,Same H H'/\RepT X.K H' d v/\QD d)):DV X e t :=
 ⟨λpins s σ H H₀ σD Q I ok q=>thn (h pins s σ H _ I (k σ H H₀ σD Q ok q)) λu s' zq80=>by obtain⟨v,H',I',r,d,sm,rp,qd⟩:=zq80;exact⟨v,H',d,I',r,sm,rp,qd⟩⟩
theorem DF.of{t:DTF}{t':TE}(h:PE X e t')(k:∀σ H H₀ σD QD,DOk X.K H₀ H σD σ->t σD QD->t' σ H (λv H'=>∃a vs xs,v=.ref a/\Same H H'/\H a=none/\H' a=some (.lst vs)/\Reps X.K H' xs vs/\QD xs)):DF X e t :=
 ⟨λpins s σ H H₀ σD Q I ok q=>thn (h pins s σ H _ I (k σ H H₀ σD Q ok q)) λu s' zq80=>by obtain⟨v,H',I',r,a,vs,xs,ev,sm,n,e,rp,qd⟩:=zq80;exact⟨a,H',vs,xs,by subst ev;exact r,I',sm,n,e,rp,qd⟩⟩
theorem DT.of{t:DTT}{t':TT}(h:PT X e t')(k:∀σ H H₀ σD QD,DOk X.K H₀ H σD σ->t σD QD->t' σ H (λb H'=>Same H H'/\QD b)):DT X e t :=
 ⟨λpins s σ H H₀ σD Q I ok q=>thn (h pins s σ H _ I (k σ H H₀ σD Q ok q)) λu s' zq80=>by obtain⟨H',I',sm,qd⟩:=zq80;exact⟨H',I',sm,qd⟩⟩
theorem DE.dv{t:DTE}(h:DE X e t):DV X e t:=⟨λpins s σ H H₀ σD Q I ok q=>thn (h.run pins s σ H H₀ σD Q I ok q) λu s' zq28=>by obtain⟨v,H',d,I',r,sm,rp,qd⟩:=zq28;exact⟨v,H',d,I',r,sm,rp.top,qd⟩⟩
theorem zb3{pins:List (Addr×Obj)}{σ:St}{H H':Hp}{s:Shared}{a:Addr}{vs:List V}{xs:List D}(I:Inv X pins σ H' s)(sm:Same H H')(n:H a=none)(e:H' a=some (.lst vs))(r:Reps X.K H' xs vs):
  ∃H'',Inv X pins σ H'' s/\Same H H''/\Rep X.K H'' (.list xs) (.ref a):=by
 obtain⟨o,J⟩:=I.frz e;refine⟨_,J,λb u hb=>?_,.lst zq (r.mono (y9 e rfl))⟩;rw[zv (yy hb n)];exact sm b u hb
def dFz(t:DTF):DTE:=λσ Q=>t σ λxs=>Q (.list xs)
theorem DF.de{t:DTF}(h:DF X e t):DE X e (dFz t):=⟨λpins s σ H H₀ σD Q I ok q=>thn (h.run pins s σ H H₀ σD _ I ok q) λu s' zq34=>by
 obtain⟨a,H',vs,xs,eu,I',sm,n,e,rp,qd⟩:=zq34;obtain⟨H'',J,sm',r'⟩:=zb3 I' sm n e rp;exact⟨.ref a,H'',.list xs,J,eu,sm',r',qd⟩⟩
def zo7(i:Nat):DTE:=λσ Q=>match σ[i]? with
 |some (some (.val d))=>Q d
 |_=>False
def zo8(i:Nat):DTE:=λσ Q=>match σ[i]? with
 |some (some (.val d))=>Q d
 |some (some (.own (.lst xs)))=>Q (.list xs)
 |some (some (.vw xs))=>Q (.list xs)
 |_=>False
def dC(d:D):DTE:=λ_ Q=>Q d
theorem zg(i:Nat){x:Str}{pos:Pos}(hN:X.N[i]?=some x:=by rfl)(hv:Vis X.env.scope x:=by first|exact Or.inl rfl|exact Or.inr (Or.inl rfl)|exact Or.inr (Or.inr rfl))(hd:(x ==("__debug__" : Str))=false:=by decide)
  (hcd:(x ==("__classdict__" : Str))=false:=by decide):DE X (.Name x pos) (zo7 i):=by
 refine DE.of (y4 (i:=i) hN hv hd hcd) λσ H H₀ σD QD ok q=>?_;unfold zo7 at q
 split at q
 ·next d e=>
  obtain⟨v,e1,r⟩:=ok.val e;exact⟨v,e1,d,Same.refl _,r,q⟩
 ·exact q.elim
theorem zc(i:Nat){x:Str}{pos:Pos}(hN:X.N[i]?=some x:=by rfl)(hv:Vis X.env.scope x:=by first|exact Or.inl rfl|exact Or.inr (Or.inl rfl)|exact Or.inr (Or.inr rfl))(hd:(x ==("__debug__" : Str))=false:=by decide)
  (hcd:(x ==("__classdict__" : Str))=false:=by decide):DV X (.Name x pos) (zo8 i):=by
 refine DV.of (y4 (i:=i) hN hv hd hcd) λσ H H₀ σD QD ok q=>?_;unfold zo8 at q
 split at q
 ·next d e=>
  obtain⟨v,e1,r⟩:=ok.val e;exact⟨v,e1,d,Same.refl _,r.top,q⟩
 ·next xs e=>
  obtain⟨a,vs,e1,e2,r,_⟩:=ok.ownL e;exact⟨.ref a,e1,.list xs,Same.refl _,.inr ⟨xs,rfl,a,vs,rfl,.inl e2,r⟩,q⟩
 ·next xs e=>
  obtain⟨v,e1,r⟩:=ok.vw e;exact⟨v,e1,.list xs,Same.refl _,.inr ⟨xs,rfl,r⟩,q⟩
 ·exact q.elim
theorem zb{i j pos}:DE X (.Constant (.int i) j pos) (dC (.int i)):=DE.of xr λσ H H₀ σD QD ok q=>⟨.int i,Same.refl _,.int,q⟩
theorem xx{b j pos}:DE X (.Constant (.bool b) j pos) (dC (.bool b)):=DE.of zt0 λσ H H₀ σD QD ok q=>⟨.bool b,Same.refl _,.bl,q⟩
theorem zhh{j pos}:DE X (.Constant .none j pos) (dC .none):=DE.of zre λσ H H₀ σD QD ok q=>⟨.none,Same.refl _,.non,q⟩
theorem yn{x j pos}:DE X (.Constant (.str x) j pos) (dC (.str x)):=DE.of zrf λσ H H₀ σD QD ok q=>⟨.str x,Same.refl _,.str,q⟩
theorem yh{x:Str}{d:D}{v:V}{u:Value}{pos:Pos}(hg:Gl X x)(hm:X.mg x=some u)(r:RelV v u)(rp:∀H,Rep X.K H d v)(hd:(x ==("__debug__" : Str))=false:=by decide):DE X (.Name x pos) (dC d) :=
 DE.of (zou hg hm r hd) λσ H H₀ σD QD ok q=>⟨d,Same.refl _,rp H,q⟩
def zlz:DTF:=λ_ Q=>Q []
def zfq(t:DTE)(r:DTF):DTF:=λσ Q=>t σ λd=>r σ λds=>Q (d::ds)
theorem zi:DA X [] zlz:=⟨λpos pins s σ H H₀ σD Q I ok q=>thn (x3 pos pins s σ H (λvs H'=>vs = []/\H'=H) I ⟨rfl,rfl⟩) λus s' zq47=>by obtain⟨vs,H',I',r,e1,e2⟩:=zq47;subst e1 e2;exact⟨[],H',[],I',r,Same.refl _,.nil,q⟩⟩
theorem za{t:DTE}{r:DTF}(ha:DE X e t)(hr:DA X es r)(hs:starEach (e::es) X.env=(false,eval e X.env)::starEach es X.env:=by rfl):DA X (e::es) (zfq t r):=⟨λpos pins s σ H H₀ σD Q I ok q=>by
 refine thn (yw ha.pe hr.pa hs pos pins s σ H (λvs H'=>∃ds,Same H H'/\Reps X.K H' ds vs/\Q ds) I ?_) λus s' zq19=>by obtain⟨vs,H',I',r,ds,sm,rp,qd⟩:=zq19;exact⟨vs,H',ds,I',r,sm,rp,qd⟩
 exact⟨H₀,σD,_,ok,q,λv H1 d s1 r1 q1=>⟨H₀,σD,_,ok.after s1,q1,λvs H2 ds s2 r2 q2=>⟨d::ds,s1.trans s2,.cons (r1.same s2) r2,q2⟩⟩⟩⟩
theorem yi:DAv X [] zlz:=⟨λpos pins s σ H H₀ σD Q I ok q=>thn (x3 pos pins s σ H (λvs H'=>vs = []/\H'=H) I ⟨rfl,rfl⟩) λus s' zq49=>by obtain⟨vs,H',I',r,e1,e2⟩:=zq49;subst e1 e2;exact⟨[],H',[],I',r,Same.refl _,.nil,q⟩⟩
theorem zt{t:DTE}{r:DTF}(ha:DV X e t)(hr:DAv X es r)(hs:starEach (e::es) X.env=(false,eval e X.env)::starEach es X.env:=by rfl):DAv X (e::es) (zfq t r):=⟨λpos pins s σ H H₀ σD Q I ok q=>by
 refine thn (yw ha.pe hr.pa hs pos pins s σ H (λvs H'=>∃ds,Same H H'/\RepTs X.K H' ds vs/\Q ds) I ?_) λus s' zq20=>by obtain⟨vs,H',I',r,ds,sm,rp,qd⟩:=zq20;exact⟨vs,H',ds,I',r,sm,rp,qd⟩
 exact⟨H₀,σD,_,ok,q,λv H1 d s1 r1 q1=>⟨H₀,σD,_,ok.after s1,q1,λvs H2 ds s2 r2 q2=>⟨d::ds,s1.trans s2,.cons (r1.same s2) r2,q2⟩⟩⟩⟩
def zl0:DTP:=λ_ Q=>Q []
def zl1(t:DTE)(r:DTP):DTP:=λσ Q=>t σ λd=>r σ λws=>Q (.val d::ws)
def zo9(i:Nat)(r:DTP):DTP:=λσ Q=>match σ[i]? with
 |some (some (.own (.lst xs)))=>r σ λws=>Q (.vw xs::ws)
 |some (some (.vw xs))=>r σ λws=>Q (.vw xs::ws)
 |some (some (.scr ns))=>r σ λws=>Q (.scr ns::ws)
 |some (some (.val d))=>r σ λws=>Q (.val d::ws)
 |some (some .pen)=>r σ λws=>Q (.pen::ws)
 |_=>False
theorem zr:DPs X [] zl0:=⟨λpos pins s σ H H₀ σD Q I ok q=>thn (x3 pos pins s σ H (λvs H'=>vs = []/\H'=H) I ⟨rfl,rfl⟩) λus s' zq49=>by obtain⟨vs,H',I',r,e1,e2⟩:=zq49;subst e1 e2;exact⟨[],H',[],I',r,Same.refl _,.nil,q⟩⟩
theorem z7{t:DTE}{r:DTP}(ha:DE X e t)(hr:DPs X es r)(hs:starEach (e::es) X.env=(false,eval e X.env)::starEach es X.env:=by rfl):DPs X (e::es) (zl1 t r):=⟨λpos pins s σ H H₀ σD Q I ok q=>by
 refine thn (yw ha.pe hr.pa hs pos pins s σ H (λvs H'=>∃ws,Same H H'/\RepWs X.K H' ws vs/\Q ws) I ?_) λus s' zq20=>by obtain⟨vs,H',I',r,ds,sm,rp,qd⟩:=zq20;exact⟨vs,H',ds,I',r,sm,rp,qd⟩
 exact⟨H₀,σD,_,ok,q,λv H1 d s1 r1 q1=>⟨H₀,σD,_,ok.after s1,q1,λvs H2 ds s2 r2 q2=>⟨.val d::ds,s1.trans s2,.cons (r1.same s2) r2,q2⟩⟩⟩⟩
theorem zj(i:Nat){x:Str}{pos:Pos}{r:DTP}(hr:DPs X es r)(hN:X.N[i]?=some x:=by rfl)(hv:Vis X.env.scope x:=by first|exact Or.inl rfl|exact Or.inr (Or.inl rfl)|exact Or.inr (Or.inr rfl))(hd:(x ==("__debug__" : Str))=false:=by decide)
  (hcd:(x ==("__classdict__" : Str))=false:=by decide) (hs:starEach (.Name x pos::es) X.env=(false,eval (.Name x pos) X.env)::starEach es X.env:=by rfl):DPs X (.Name x pos::es) (zo9 i r):=⟨λpos' pins s σ H H₀ σD Q I ok q=>by
 refine thn (yw (y4 (i:=i) hN hv hd hcd) hr.pa hs pos' pins s σ H (λvs H'=>∃ws,Same H H'/\RepWs X.K H' ws vs/\Q ws) I ?_) λus s' zq46=>by obtain⟨vs,H',I',r,ds,sm,rp,qd⟩:=zq46;exact⟨vs,H',ds,I',r,sm,rp,qd⟩
 unfold zo9 at q
 split at q
 ·next xs e=>
  obtain⟨a,vs,e1,e2,r,_⟩:=ok.ownL e;exact⟨.ref a,e1,H₀,σD,_,ok,q,λws H2 ds s2 r2 q2=>⟨.vw xs::ds,s2,.cons (RepL.same s2 ⟨a,vs,rfl,.inl e2,r⟩) r2,q2⟩⟩
 ·next xs e=>
  obtain⟨v,e1,r⟩:=ok.vw e;exact⟨v,e1,H₀,σD,_,ok,q,λws H2 ds s2 r2 q2=>⟨.vw xs::ds,s2,.cons (RepL.same s2 r) r2,q2⟩⟩
 ·next ns e=>
  obtain⟨a,e1,r⟩:=ok.scr e;exact⟨.ref a,e1,H₀,σD,_,ok,q,λws H2 ds s2 r2 q2=>⟨.scr ns::ds,s2,.cons ⟨a,rfl,s2.seq r⟩ r2,q2⟩⟩
 ·next d e=>
  obtain⟨v,e1,r⟩:=ok.val e;exact⟨v,e1,H₀,σD,_,ok,q,λws H2 ds s2 r2 q2=>⟨.val d::ds,s2,.cons (r.same s2) r2,q2⟩⟩
 ·next e=>
  obtain⟨a,e1,r⟩:=ok.pen e;exact⟨.ref a,e1,H₀,σD,_,ok,q,λws H2 ds s2 r2 q2=>⟨.pen::ds,s2,.cons ⟨a,rfl,s2 _ _ r⟩ r2,q2⟩⟩
 ·exact q.elim⟩
def zsb(t:DTF):DTE:=λσ Q=>t σ λds=>ds.length<=sizeLine/\Q (.tuple ds)
def zpa(t:DTF):DTF:=λσ Q=>t σ λds=>ds.length<=sizeLine/\Q ds
theorem zo{x1 pos}{t:DTF}(h:DA X es t):DE X (.Tuple es x1 pos) (zsb t) :=
 DE.of (zrt h.pa) λσ H H₀ σD QD ok q=>⟨H₀,σD,_,ok,q,λvs H1 ds s1 r1 q1=>⟨by rw[<-r1.length];exact q1.1,λp hp=>⟨.tuple ds,s1.trans (z5 hp _),.tup (SqT.of zq) (r1.same (z5 hp _)),q1.2⟩⟩⟩
theorem x4{pos}{t:DTF}(h:DA X es t):DF X (.List es pos) (zpa t) :=
 DF.of (zhb h.pa) λσ H H₀ σD QD ok q=>⟨H₀,σD,_,ok,q,λvs H1 ds s1 r1 q1=>⟨by rw[<-r1.length];exact q1.1,λp hp=>⟨p,vs,ds,rfl,s1.trans (z5 hp _),s1.free hp,zq,r1.same (z5 hp _),q1.2⟩⟩⟩
variable {a b:Expr}{rest:List Expr}{pos:Pos}
def onB(Q:Bool->Prop):D->Prop
 |.bool b=>Q b
 |_=>False
def dTB(t:DTE):DTT:=λσ Q=>t σ (onB Q)
def zsc(t u:DTT):DTT:=λσ Q=>t σ λc=>if c=true then u σ Q else Q false
def zsd(t:DTT):DTT:=λσ Q=>t σ λc=>Q (!c)
theorem DWt.dt{t:DTT}(h:DWt X e t):DT X e t:=⟨h.run _⟩
theorem zpb{t:DTT}(ha:DT X a t):DWt X (.BoolOp .And [a] pos) t:=⟨λwh pins s σ H H₀ σD Q I ok q=>by
 refine isTrue_and (thn (ha.run pins s σ H H₀ σD Q I ok q) λc s1 e=>?_)
 cases c with
 |true=>exact isTrue_and_nil e
 |false=>exact e⟩
theorem zse{t u:DTT}(ha:DT X a t)(hb:DWt X (.BoolOp .And (b::rest) pos) u):DWt X (.BoolOp .And (a::b::rest) pos) (zsc t u):=⟨λwh pins s σ H H₀ σD Q I ok q=>by
 refine isTrue_and (thn (ha.run pins s σ H H₀ σD _ I ok q) λc s1 zr2=>?_);obtain⟨H1,I1,sm,q1⟩:=zr2
 cases c with
 |true=>
  rw[if_pos rfl]at q1;exact thn (hb.run wh pins s1 σ H1 H₀ σD Q I1 (ok.after sm) q1) λ_ _ zq67=>by obtain⟨H2,I2,s2,q2⟩:=zq67;exact⟨H2,I2,sm.trans s2,q2⟩
 |false=>rw[if_neg Bool.false_ne_true]at q1;exact⟨H1,I1,sm,q1⟩⟩
theorem zec{t:DTT}(ha:DT X a t):DT X (.UnaryOp .Not a pos) (zsd t):=⟨λpins s σ H H₀ σD Q I ok q=>isTrue_not (ha.run pins s σ H H₀ σD (λc=>Q (!c)) I ok q)⟩
def zl2:D->Bool
 |.none=>false
 |.bool b=>b
 |.int i=>i != 0
 |.str x=>(x.length:Int) != 0
 |.tuple xs=>!xs.isEmpty
 |.list xs=>!xs.isEmpty
 |.dict kvs=>!kvs.isEmpty
def zsf(t:DTE):DTT:=λσ Q=>t σ λd=>match d with
 |.str x=>x.length<=sizeLine/\Q (zl2 (.str x))
 |.dict _=>False
 |d=>Q (zl2 d)
theorem zhi{K:PySem.W.Frag}{H:Hp}{ds:List D}{vs:List V}(r:Reps K H ds vs):(!vs.isEmpty) = !ds.isEmpty:=by cases r <;> rfl
theorem kc{K:PySem.W.Frag}{H:Hp}{d:D}{v:V}(r:RepT K H d v)(h:match d with|.str x=>x.length<=sizeLine|.dict _=>False|_=>True):zrr K v H (zl2 d):=by
 rcases r with r |⟨xs,rfl,a,vs,rfl,e,r⟩
 ·cases r with
  |non=>rfl
  |bl=>rfl
  |int=>rfl
  |str=>exact⟨h,rfl⟩
  |tup q r=>exact .inr (.inl ⟨_,q,(zhi r).symm⟩)
  |lst q r=>exact .inl ⟨_,.inl (.inr ⟨_,q⟩),(zhi r).symm⟩
  |dic q r=>exact h.elim
 ·exact .inl ⟨vs,.inl e,(zhi r).symm⟩
theorem x5{t:DTE}(h:DV X e t)(he:∀whole,isTrue e X.env whole=(do let v <-whole;standAt e.pos;holding [v] (truthy v)):=by intro _;rfl):DT X e (zsf t) :=
 DT.of (zlq h.pe he) λσ H H₀ σD QD ok q=>⟨H₀,σD,_,ok,q,λv H1 d s1 r1 q1=>by
  cases d with
  |str x=>exact⟨_,kc r1 q1.1,s1,q1.2⟩
  |dict _=>exact q1.elim
  |none=>exact⟨_,kc r1 trivial,s1,q1⟩
  |bool _=>exact⟨_,kc r1 trivial,s1,q1⟩
  |int _=>exact⟨_,kc r1 trivial,s1,q1⟩
  |tuple _=>exact⟨_,kc r1 trivial,s1,q1⟩
  |list _=>exact⟨_,kc r1 trivial,s1,q1⟩⟩
def zsg(c:DTT)(t u:DTE):DTE:=λσ Q=>c σ λb=>if b=true then t σ Q else u σ Q
theorem DEnd.back{pins:List (Addr×Obj)}{σ:St}{H H1:Hp}{Q:D->Prop}{u:Value}{s':Shared}(s1:Same H H1)(h:DEnd X pins σ H1 Q u s'):DEnd X pins σ H Q u s':=let ⟨v,H',d,I',r,sm,rp,qd⟩:=h;⟨v,H',d,I',r,s1.trans sm,rp,qd⟩
theorem xy{c:Expr}{tc:DTT}{t u:DTE}(hc:DT X c tc)(ha:DE X a t)(hb:DE X b u):DE X (.IfExp c a b pos) (zsg tc t u) :=
 DE.of (zll hc.pt ha.pe hb.pe) λσ H H₀ σD QD ok q=>⟨H₀,σD,_,ok,q,λk H1 s1 q1=>by
  cases k with
  |true=>rw[if_pos rfl]at q1 ⊢;exact⟨H₀,σD,_,ok.after s1,q1,λv H2 d s2 r2 q2=>⟨d,s1.trans s2,r2,q2⟩⟩
  |false=>rw[if_neg Bool.false_ne_true]at q1 ⊢;exact⟨H₀,σD,_,ok.after s1,q1,λv H2 d s2 r2 q2=>⟨d,s1.trans s2,r2,q2⟩⟩⟩
end
section
variable {X:Cx}{pins:List (Addr×Obj)}{σ:St}{H:Hp}{s:Shared}
theorem Reps.readsW(I:Inv X pins σ H s){ds:List D}{vs:List V}(h:Reps X.K H ds vs)(k:∀d∈ds,∀(v:V) (u:Value),Rep X.K H d v->RelV v u->d.canLay0=true->∃as,Reads s.heap u d as){us:List Value}(r:Vals vs us)(c:PyData.canLayAll0 ds=true):∃as,ReadsAll s.heap us ds as:=by
 induction ds generalizing vs us with
 |nil=>cases h;cases r;exact⟨_,.nil⟩
 |cons d ds ih=>
  cases h with
  |cons q t=>
   cases r with
   |cons r1 r2=>
    simp only[PyData.canLayAll0,Bool.and_eq_true]at c;obtain⟨as,ra⟩:=k d List.mem_cons_self _ _ q r1 c.1;obtain⟨bs,rb⟩:=ih t (λx hx=>k x (List.mem_cons_of_mem _ hx)) r2 c.2;exact⟨_,.cons ra rb⟩
theorem Rep.reads(I:Inv X pins σ H s){d:D}{v:V}{u:Value}(h:Rep X.K H d v)(r:RelV v u)(c:d.canLay0=true):∃as,Reads s.heap u d as:=by
 refine Rep.rec (motive_1:=λd v _=>∀u:Value,RelV v u->d.canLay0=true->∃as,Reads s.heap u d as) (motive_2:=λds vs _=>∀us:List Value,Vals vs us->PyData.canLayAll0 ds=true->∃as,ReadsAll s.heap us ds as) (motive_3:=λ_ _ _=>True)
  ?_ ?_ ?_ ?_ ?_ ?_ ?_ ?_ ?_ trivial (λ_ _ _ _=>trivial) h u r c
 ·intro u r _;cases r;exact⟨_,.none⟩
 ·intro b u r _;cases r;exact⟨_,.bool _⟩
 ·intro i u r _;obtain⟨t,rfl⟩:=r;exact⟨_,.int _ _⟩
 ·intro x u r _;obtain⟨t,rfl⟩:=r;exact⟨_,.str _ _⟩
 ·intro xs a vs h q ih u r c
  cases r;obtain⟨its,rv,⟨o,e1,e2,n,e3⟩,_⟩:=I.tuple h;obtain⟨as,ra⟩:=ih its rv (by simpa[PyData.canLay0]using c);exact⟨_,.tuple e1 e2 e3 (by simpa using ra)⟩
 ·intro xs a vs o h q ih u r c
  cases r;obtain⟨_,z,its,n,rv,e⟩:=I.hok _ _ h;obtain⟨as,ra⟩:=ih its rv (by simpa[PyData.canLay0]using c);exact⟨_,.list e rfl rfl (by simpa using ra)⟩
 ·intro kvs a kws o h q ih u r c;simp[PyData.canLay0]at c
 ·intro us r _;cases r;exact⟨_,.nil⟩
 ·intro d v ds vs q t i j us r c
  cases r with
  |cons r1 r2=>
   simp only[PyData.canLayAll0,Bool.and_eq_true]at c;obtain⟨as,ra⟩:=i _ r1 c.1;obtain⟨bs,rb⟩:=j _ r2 c.2;exact⟨_,.cons ra rb⟩
theorem Reps.reads(I:Inv X pins σ H s){ds:List D}{vs:List V}{us:List Value}(h:Reps X.K H ds vs)(r:Vals vs us)(c:PyData.canLayAll0 ds=true):∃as,ReadsAll s.heap us ds as:=h.readsW I (λ_ _ _ _ q r c=>q.reads I r c) r c
theorem RepT.reads(I:Inv X pins σ H s){d:D}{v:V}{u:Value}(h:RepT X.K H d v)(r:RelV v u)(c:d.canLay0=true):∃as,Reads s.heap u d as:=by
 rcases h with h |⟨xs,rfl,a,vs,rfl,e,q⟩
 ·exact h.reads I r c
 ·cases r;obtain⟨z,its,n,rv,e⟩:=e.ok I.hok;obtain⟨as,ra⟩:=Reps.reads I q rv (by simpa[PyData.canLay0]using c);exact⟨_,.list e rfl rfl (by simpa using ra)⟩
end
def Lay(d:D):Prop:=SeqAt.shaped d=true
theorem Lay.can{d:D}(h:Lay d):d.canLay0=true:=by unfold Lay SeqAt.shaped at h;rw[Bool.and_eq_true]at h;exact h.1
theorem Lay.deep{d:D}(h:Lay d):d.depth<=64:=by unfold Lay SeqAt.shaped at h;rw[Bool.and_eq_true]at h;exact of_decide_eq_true h.2
abbrev DOp:=D->D->(D->Prop)->Prop
structure OpD(X:Cx)(f:Value->Value->Sem Value)(g:DOp):Prop where
 run:∀(pins:List (Addr×Obj)) (s:Shared) (σ:St) (H:Hp) (x y:V) (v u:Value) (a b:D) (Q:D->Prop),Inv X pins σ H s->RelV x v->RelV y u->RepT X.K H a x->RepT X.K H b y->g a b Q->wpAny (model X.prog X.w) X.A (f v u) (DEnd X pins σ H Q) X.xe s
structure OpF(X:Cx)(f:Value->Value->Sem Value)(g:D->D->(List D->Prop)->Prop):Prop where
 run:∀(pins:List (Addr×Obj)) (s:Shared) (σ:St) (H:Hp) (x y:V) (v u:Value) (a b:D) (Q:List D->Prop),Inv X pins σ H s->RelV x v->RelV y u->RepT X.K H a x->RepT X.K H b y->g a b Q->wpAny (model X.prog X.w) X.A (f v u) (zfp X pins σ H Q) X.xe s
def dOp(g:DOp)(ta tb:DTE):DTE:=λσ Q=>ta σ λa=>tb σ λb=>g a b Q
section
variable {X:Cx}{a b c:Expr}{ta tb tc:DTE}{pos:Pos}
theorem OpD.of{f:Value->Value->Sem Value}{r:R2}{g:DOp}(h:OpR X f r)(k:∀x y H a b Q,RepT X.K H a x->RepT X.K H b y->g a b Q->r x y H (λv H'=>∃d,Same H H'/\Rep X.K H' d v/\Q d)):OpD X f g :=
 ⟨λpins s σ H x y v u a b Q I rx ry ra rb q=>thn (h pins s σ H x y v u _ I rx ry (k x y H a b Q ra rb q)) λw s' zq15=>by obtain⟨z,H',I',rz,d,sm,rp,qd⟩:=zq15;exact⟨z,H',d,I',rz,sm,rp,qd⟩⟩
theorem OpF.of{f:Value->Value->Sem Value}{r:R2}{g:D->D->(List D->Prop)->Prop}(h:OpR X f r)(k:∀x y H a b Q,RepT X.K H a x->RepT X.K H b y->g a b Q->r x y H (λv H'=>∃p vs xs,v=.ref p/\Same H H'/\H p=none/\H' p=some (.lst vs)/\Reps X.K H' xs vs/\Q xs)):OpF X f g :=
 ⟨λpins s σ H x y v u a b Q I rx ry ra rb q=>thn (h pins s σ H x y v u _ I rx ry (k x y H a b Q ra rb q)) λw s' zq15=>by obtain⟨z,H',I',rz,p,vs,xs,ez,sm,n,e,rp,qd⟩:=zq15;exact⟨p,H',vs,xs,by subst ez;exact rz,I',sm,n,e,rp,qd⟩⟩
theorem OpF.opD{f:Value->Value->Sem Value}{g:D->D->(List D->Prop)->Prop}(h:OpF X f g):OpD X f (λa b Q=>g a b λxs=>Q (.list xs)) :=
 ⟨λpins s σ H x y v u a b Q I rx ry ra rb q=>thn (h.run pins s σ H x y v u a b _ I rx ry ra rb q) λw s' zq7=>by
  obtain⟨p,H',vs,xs,ew,I',sm,n,e,rp,qd⟩:=zq7;obtain⟨H'',J,sm',r'⟩:=zb3 I' sm n e rp;exact⟨.ref p,H'',.list xs,J,ew,sm',r',qd⟩⟩
theorem zuw{ta tb:DTE}(ha:DV X a ta)(hb:DV X b tb){pins:List (Addr×Obj)}{s:Shared}{σ:St}{H H₀:Hp}{σD:DSt}{R:D->D->Prop}(I:Inv X pins σ H s)(ok:DOk X.K H₀ H σD σ)(h:ta σD λx=>tb σD λy=>R x y)
  {α:Type}{Q:α->Shared->Prop}{f:Value->Value->Sem α}
  (hf:∀v u s2 x y H2 d e,Inv X pins σ H2 s2->RelV x v->RelV y u->Same H H2->RepT X.K H2 d x->RepT X.K H2 e y->R d e->wpAny (model X.prog X.w) X.A (f v u) Q X.xe s2) :
  wpAny (model X.prog X.w) X.A (eval a X.env) (λv s₁=>wpAny (model X.prog X.w) X.A (eval b X.env) (λu s₂=>wpAny (model X.prog X.w) X.A (f v u) Q X.xe s₂) X.xe s₁) X.xe s:=by
 refine thn (ha.run pins s σ H H₀ σD _ I ok h) λv s1 zr1=>?_;obtain⟨x,H1,d,I1,r1,sm1,p1,q1⟩:=zr1;refine thn (hb.run pins s1 σ H1 H₀ σD _ I1 (ok.after sm1) q1) λu s2 zr2=>?_;obtain⟨y,H2,e,I2,r2,sm2,p2,q2⟩:=zr2;exact hf v u s2 x y H2 d e I2 r1 r2 (sm1.trans sm2) (p1.same sm2) p2 q2
theorem zp{op:Operator}{g:DOp}(ho:OpD X (binaryOp op) g)(ha:DV X a ta)(hb:DV X b tb):DE X (.BinOp a op b pos) (dOp g ta tb) :=
 ⟨λpins s σ H H₀ σD Q I ok q=>wpAny_BinOp (zuw ha hb I ok q λv u s2 x y H2 d e I2 rx ry sm rd re qd=>thn (ho.run pins s2 σ H2 x y v u d e Q I2 rx ry rd re qd) λ_ _ z=>z.back sm)⟩
theorem zl3{op:CmpOp}{g:DOp}(ho:OpD X (compareOp op) g)(ha:DV X a ta)(hb:DV X b tb)(hm:behindInMarks op b=false):DE X (.Compare a [op] [b] pos) (dOp g ta tb) :=
 ⟨λpins s σ H H₀ σD Q I ok q=>wpAny_Compare1 (zuw ha hb I ok q λv u s2 x y H2 d e I2 rx ry sm rd re qd=>thn (ho.run pins s2 σ H2 x y v u d e Q I2 rx ry rd re qd) λ_ _ z=>z.back sm) hm⟩
theorem yb{op:CmpOp}{g:DOp}(ho:OpD X (compareOp op) g)(ha:DV X a ta)(hb:DV X b tb)(hm:behindInMarks op b=false):DT X (.Compare a [op] [b] pos) (dTB (dOp g ta tb)) :=
 ⟨λpins s σ H H₀ σD Q I ok q=>by
  refine wpAny_isTrue_Compare1 (thn (ha.run pins s σ H H₀ σD _ I ok q) λv s1 ⟨x,H1,d,I1,r1,sm1,p1,q1⟩=>thn (hb.run pins s1 σ H1 H₀ σD _ I1 (ok.after sm1) q1) λu s2 ⟨y,H2,e,I2,r2,sm2,p2,q2⟩=>
   thn (ho.run pins s2 σ H2 x y v u d e _ I2 r1 r2 (p1.same sm2) p2 q2) λk s3 ⟨z,H3,dz,I3,r3,sm3,p3,q3⟩=>?_) hm
  cases dz with
  |bool k=>
   cases p3
   cases r3;exact wpAny_truthy_bool ⟨H3,I3,(sm1.trans sm2).trans sm3,q3⟩
  |_=>exact q3.elim⟩
def dUn(g:D->(D->Prop)->Prop)(ta:DTE):DTE:=λσ Q=>ta σ λa=>g a Q
def zsh:D->(D->Prop)->Prop
 |.int i,Q=>Q (.int (-i))
 |_,_=>False
theorem jf(ha:DE X a ta):DE X (.UnaryOp .USub a pos) (dUn zsh ta) :=
 DE.of (zt8 zrp ha.pe) λσ H H₀ σD QD ok q=>⟨H₀,σD,_,ok,q,λv H1 d s1 r1 q1=>by
  cases d with
  |int i=>cases r1;exact⟨i,rfl,.int (-i),s1,.int,q1⟩
  |_=>exact q1.elim⟩
theorem RepT.int{K:PySem.W.Frag}{H:Hp}{i:Int}{v:V}(h:RepT K H (.int i) v):v=.int i:=by
 rcases h with h |⟨_,e,_⟩
 ·cases h;rfl
 ·cases e
theorem RepT.str{K:PySem.W.Frag}{H:Hp}{i:Str}{v:V}(h:RepT K H (.str i) v):v=.str i:=by
 rcases h with h |⟨_,e,_⟩
 ·cases h;rfl
 ·cases e
theorem RepT.bool{K:PySem.W.Frag}{H:Hp}{i:Bool}{v:V}(h:RepT K H (.bool i) v):v=.bl i:=by
 rcases h with h |⟨_,e,_⟩
 ·cases h;rfl
 ·cases e
theorem RepT.tuple{K:PySem.W.Frag}{H:Hp}{xs:List D}{v:V}(h:RepT K H (.tuple xs) v):∃a vs,v=.ref a/\SqT K H a vs/\Reps K H xs vs:=by
 rcases h with h |⟨_,e,_⟩
 ·cases h with
  |tup h r=>exact⟨_,_,rfl,h,r⟩
 ·cases e
def gII(C:Int->Int->Prop)(f:Int->Int->D):DOp
 |.int i,.int j,Q=>C i j/\Q (f i j)
 |_,_,_=>False
def zed(f:Int->Int->D):DOp
 |.int i,.int j,Q=>Q (f i j)
 |_,_,_=>False
theorem OpD.ii{f:Value->Value->Sem Value}{C:Int->Int->Prop}{g:Int->Int->Int}(h:OpR X f (rI C λi j=>.int (g i j))):OpD X f (gII C λi j=>.int (g i j)) :=
 OpD.of h λx y H a b Q ra rb q=>by
  cases a with
  |int i=>
   cases b with
   |int j=>cases ra.int;cases rb.int;exact⟨i,j,rfl,rfl,q.1,.int _,Same.refl _,.int,q.2⟩
   |_=>exact q.elim
  |_=>exact q.elim
theorem OpD.ii0{f:Value->Value->Sem Value}{g:Int->Int->Int}(h:OpR X f (rI0 λi j=>.int (g i j))):OpD X f (zed λi j=>.int (g i j)) :=
 OpD.of h λx y H a b Q ra rb q=>by
  cases a with
  |int i=>
   cases b with
   |int j=>cases ra.int;cases rb.int;exact⟨i,j,rfl,rfl,.int _,Same.refl _,.int,q⟩
   |_=>exact q.elim
  |_=>exact q.elim
theorem OpD.ib0{f:Value->Value->Sem Value}{g:Int->Int->Bool}(h:OpR X f (rI0 λi j=>.bl (g i j))):OpD X f (zed λi j=>.bool (g i j)) :=
 OpD.of h λx y H a b Q ra rb q=>by
  cases a with
  |int i=>
   cases b with
   |int j=>cases ra.int;cases rb.int;exact⟨i,j,rfl,rfl,.bool _,Same.refl _,.bl,q⟩
   |_=>exact q.elim
  |_=>exact q.elim
theorem zfr:OpD X (binaryOp .Sub) (zed λi j=>.int (i-j)):=OpD.ii0 zrm
theorem zl4:OpD X (binaryOp .Mod) (gII (λ_ j=>0<j) λi j=>.int (i % j)):=OpD.ii zg8
theorem zux:OpD X (binaryOp .Pow) (gII zua λi j=>.int (i ^ j.toNat)):=OpD.ii zro
theorem zc2:OpD X (compareOp .Lt) (zed λi j=>.bool (decide (i<j))):=OpD.ib0 zuc
theorem zwb:OpD X (compareOp .LtE) (zed λi j=>.bool (decide (i<=j))):=OpD.ib0 zud
theorem zpc:OpD X (compareOp .Gt) (zed λi j=>.bool (decide (j<i))):=OpD.ib0 zqq
theorem zpd:OpD X (compareOp .GtE) (zed λi j=>.bool (decide (j<=i))):=OpD.ib0 zue
def zsi:D->D->(List D->Prop)->Prop
 |.list xs,.list ys,Q=>xs.length+ys.length<=sizeLine/\Q (xs++ys)
 |_,_,_=>False
theorem zpe:OpR X (binaryOp .Add) (λx y H Q=>∃l b xs zs,x=.ref l/\y=.ref b/\Rd H l (.lst xs)/\Rd H b (.lst zs)/\xs.length+zs.length<=sizeLine/\∀p,H p=none->Q (.ref p) (upd H p (.lst (xs++zs)))):=by
 intro pins s σ H x y v u Q I rx ry h;obtain⟨l,b,xs,zs,rfl,rfl,hH,hB,hz,q⟩:=h
 cases rx
 cases ry;obtain⟨z,its,n,r,e⟩:=hH.ok I.hok;obtain⟨z2,its2,n2,r2,e2⟩:=hB.ok I.hok;have hl:=r.length;have hl2:=r2.length;refine PySem.P.add_list e e2 ?_ (by rw[List.size_toArray,List.size_toArray];lia);have ea:its.toArray++its2.toArray=(its++its2).toArray:=by simp
 rw[ea];exact⟨.ref _,_,I.lnew (t':=s.toks) (r.append r2) (by rw[List.length_append];omega),rfl,q _ I.fresh⟩
theorem f_cat:OpF X (binaryOp .Add) zsi:=OpF.of zpe λx y H a b Q ra rb q=>by
 cases a with
 |list xs=>
  cases b with
  |list ys=>
   obtain⟨l,vs,rfl,hl,r1⟩:=ra.list;obtain⟨m,ws,rfl,hm,r2⟩:=rb.list;exact⟨l,m,vs,ws,rfl,rfl,hl,hm,by rw[<-r1.length,<-r2.length];exact q.1,λp hp=>⟨p,_,xs++ys,rfl,z5 hp _,hp,zq,(r1.append r2).same (z5 hp _),q.2⟩⟩
  |_=>exact q.elim
 |_=>exact q.elim
def zsj:D->D->(List D->Prop)->Prop
 |.list xs,.int k,Q=>-(2 ^ 63)<=k/\k<2 ^ 63/\xs.length * k.toNat<=sizeLine/\Q (List.replicate k.toNat xs).flatten
 |_,_,_=>False
theorem zpf:OpR X (binaryOp .Mult) (λx y H Q=>∃l k xs,x=.ref l/\y=.int k/\Rd H l (.lst xs)/\-(2 ^ 63)<=k/\k<2 ^ 63/\xs.length * k.toNat<=sizeLine /\
 ∀p,H p=none->Q (.ref p) (upd H p (.lst (List.replicate k.toNat xs).flatten))):=by
 intro pins s σ H x y v u Q I rx ry h;obtain⟨l,k,xs,rfl,rfl,hH,h1,h2,hz,q⟩:=h
 cases rx;obtain⟨t,rfl⟩:=ry;obtain⟨z,its,n,r,e⟩:=hH.ok I.hok;have hl:=r.length;have hlen:its.toArray.size * k.toNat<=sizeLine:=by rw[List.size_toArray,<-hl];exact hz
 have hcap:¬ its.toArray.size * k.toNat >(2 ^ 63-1) / 8:=by
  have:(sizeLine:Nat)<=(2 ^ 63-1) / 8:=by decide
  (clear hz z hl;lia)
 have hfit:¬ (!Builtin.List.listFitsIndex k)=true:=by
  rw[fitsIndex_both h1 h2];exact Bool.false_ne_true
 have hlong:¬ Builtin.List.listTooLong (its.toArray.size * k.toNat)=true:=by
  rw[zlv hlen];exact Bool.false_ne_true
 have hnew:List.foldl (λx1 x2=>x1++x2) #[] (List.replicate (if its.toArray.isEmpty=true then 0 else k.toNat) its.toArray)=(List.replicate k.toNat its).flatten.toArray:=by
  have f0:∀m:Nat,List.foldl (λx1 x2=>x1++x2) #[] (List.replicate m its.toArray)=(List.replicate m its).flatten.toArray:=λm=>by
   have:=zdi its m [];rw[List.nil_append]at this;exact this
  rw[f0]
  cases its with
  |nil=>simp
  |cons a r'=>rw[if_neg (by simp)]
 refine wpAny_binaryOp_repeat_ref (T := "list") (U := "int") (by decide) ⟨_,e,rfl⟩ (λs'=>typeIs_int s' k t) noFill_list_mul F.fills_int_mul F.slot_int_rmul repeat_list F.slot_int_index.lookup
  (call_meets F.slot_int_rmul (typeIs_int s k t) F.entry_int_rmul (F.args_int_rmul_2 _ _) (int___rmul___int_list k t l its.toArray n)
   ⟨e,rfl,⟨_,e,rfl⟩,call_meets F.slot_list_mul ⟨_,e,rfl⟩ F.entry_list_mul (F.args_list_mul_2 _ _) (AutoListH.list___mul___list_int_3 l its.toArray n k t hfit hcap hlong) ⟨e,?_⟩⟩)
 rw[hnew];exact⟨.ref _,_,I.lnew (t':=s.toks) (r.rep k.toNat) (by rw[zo4,Nat.mul_comm];exact hz),rfl,q _ I.fresh⟩
theorem f_rep:OpF X (binaryOp .Mult) zsj:=OpF.of zpf λx y H a b Q ra rb q=>by
 cases a with
 |list xs=>
  cases b with
  |int k=>
   obtain⟨l,vs,rfl,hl,r1⟩:=ra.list
   cases rb.int;obtain⟨h1,h2,h3,q⟩:=q;exact⟨l,k,vs,rfl,rfl,hl,h1,h2,by rw[<-r1.length];exact h3,λp hp=>⟨p,_,_,rfl,z5 hp _,hp,zq,(r1.rep k.toNat).same (z5 hp _),q⟩⟩
  |_=>exact q.elim
 |_=>exact q.elim
def zsk:DOp
 |.int i,.int j,Q=>Q (.int (i+j))
 |.str x,.str y,Q=>x.length+y.length<=sizeLine/\Q (.str (x++y))
 |.tuple xs,.tuple ys,Q=>xs.length+ys.length<=sizeLine/\Q (.tuple (xs++ys))
 |.list xs,.list ys,Q=>xs.length+ys.length<=sizeLine/\Q (.list (xs++ys))
 |_,_,_=>False
theorem zpg:OpR X (binaryOp .Add) (λx y H Q=>∃a b xs ys,x=.ref a/\y=.ref b/\SqT X.K H a xs/\SqT X.K H b ys/\xs.length+ys.length<=sizeLine/\∀p H',Same H H'->SqT X.K H' p (xs++ys)->Q (.ref p) H'):=by
 intro pins s σ H x y v u Q I rx ry h;obtain⟨a,b,xs,ys,rfl,rfl,ha,hb,hz,q⟩:=h
 cases rx
 cases ry;obtain⟨its,r1,p1,_⟩:=I.tuple ha;obtain⟨its2,r2,p2,_⟩:=I.tuple hb
 by_cases hx:xs = []
 ·obtain⟨⟨cls,dd,data,sl⟩,ho,hc,n,hd⟩:=id p1;obtain⟨⟨cls2,dd2,data2,sl2⟩,ho2,hc2,n2,hd2⟩:=id p2;simp only at hc hd hc2 hd2;subst hc hd hc2 hd2;have hv:its = []:=r1.nil_iff.mpr hx;refine concat_meets ⟨_,ho,rfl⟩ ⟨_,ho2,rfl⟩ noFill_tuple_add seq_tuple_add PySem.F.slot_tuple_add PySem.F.entry_tuple_add (PySem.F.args_tuple_add_2 _ _) (tuple_addW0 a b its.toArray its2.toArray n n2 dd dd2 sl sl2 (by simp[hv])) ⟨ho,ho2,?_⟩;exact⟨.ref b,H,I,rfl,q b H (Same.refl H) (by rw[hx,List.nil_append];exact hb)⟩
 ·refine HT.cat_tup p1 p2 (λz=>hx (r1.nil_iff.mp z)) (λz=>⟨.ref a,H,I,rfl,q a H (Same.refl H) (by rw[r2.nil_iff.mp z,List.append_nil];exact ha)⟩) (λz=>?_) (by rw[<-r1.length,<-r2.length];exact hz);refine⟨.ref s.heap.objs.size,_,I.laid (t':=s.toks) (o:=.tup (xs++ys)) (λb ob q=>Heap.get?_push_of_some _ q) (Nat.le_refl _) ?_,rfl,q _ _ (z5 (I.hok.fresh (Nat.le_refl _)) _) (SqT.of zq)⟩;exact⟨by rw[List.length_append];exact hz,_,r1.append r2,TupD.new _ _⟩
theorem o_catT:OpD X (binaryOp .Add) (λa b Q=>match a,b with|.tuple xs,.tuple ys=>xs.length+ys.length<=sizeLine/\Q (.tuple (xs++ys))|_,_=>False):=OpD.of zpg λx y H a b Q ra rb q=>by
 cases a with
 |tuple xs=>
  cases b with
  |tuple ys=>
   obtain⟨l,vs,rfl,hl,r1⟩:=ra.tuple;obtain⟨m,ws,rfl,hm,r2⟩:=rb.tuple;exact⟨l,m,vs,ws,rfl,rfl,hl,hm,by rw[<-r1.length,<-r2.length];exact q.1,λp H' sm e=>⟨_,sm,.tup e ((r1.append r2).same sm),q.2⟩⟩
  |_=>exact q.elim
 |_=>exact q.elim
theorem o_addS:OpD X (binaryOp .Add) (λa b Q=>match a,b with|.str x,.str y=>x.length+y.length<=sizeLine/\Q (.str (x++y))|_,_=>False):=OpD.of zha λx y H a b Q ra rb q=>by
 cases a with
 |str xs=>
  cases b with
  |str ys=>cases ra.str;cases rb.str;exact⟨_,_,rfl,rfl,q.1,.str _,Same.refl _,.str,q.2⟩
  |_=>exact q.elim
 |_=>exact q.elim
theorem z6:OpD X (binaryOp .Add) zsk:=⟨λpins s σ H x y v u a b Q I rx ry ra rb q=>by
 cases a with
 |int i=>cases b with
  |int j=>exact(OpD.ii0 zlo).run pins s σ H x y v u _ _ Q I rx ry ra rb q
  |_=>exact q.elim
 |str i=>cases b with
  |str j=>exact o_addS.run pins s σ H x y v u _ _ Q I rx ry ra rb q
  |_=>exact q.elim
 |tuple i=>cases b with
  |tuple j=>exact o_catT.run pins s σ H x y v u _ _ Q I rx ry ra rb q
  |_=>exact q.elim
 |list i=>cases b with
  |list j=>exact f_cat.opD.run pins s σ H x y v u _ _ Q I rx ry ra rb q
  |_=>exact q.elim
 |_=>exact q.elim⟩
def zsl:DOp
 |.int i,.int j,Q=>CMul i j/\Q (.int (i * j))
 |.list xs,.int k,Q=>-(2 ^ 63)<=k/\k<2 ^ 63/\xs.length * k.toNat<=sizeLine/\Q (.list (List.replicate k.toNat xs).flatten)
 |_,_,_=>False
theorem jz:OpD X (binaryOp .Mult) zsl:=⟨λpins s σ H x y v u a b Q I rx ry ra rb q=>by
 cases a with
 |int i=>cases b with
  |int j=>exact(OpD.ii zrn).run pins s σ H x y v u _ _ Q I rx ry ra rb q
  |_=>exact q.elim
 |list i=>cases b with
  |int j=>exact f_rep.opD.run pins s σ H x y v u _ _ Q I rx ry ra rb q
  |_=>exact q.elim
 |_=>exact q.elim⟩
def gEq:DOp
 |.int i,.int j,Q=>Q (.bool (decide (i=j)))
 |.str i,.str j,Q=>Q (.bool (decide (i=j)))
 |.bool i,.bool j,Q=>Q (.bool (decide (i=j)))
 |a,b,Q=>Lay a/\Lay b/\Q (.bool (PyData.eqv a b))
def gNe:DOp
 |.int i,.int j,Q=>Q (.bool (!decide (i=j)))
 |.str i,.str j,Q=>Q (.bool (!decide (i=j)))
 |.bool i,.bool j,Q=>Q (.bool (!decide (i=j)))
 |a,b,Q=>Lay a/\Lay b/\Q (.bool (!PyData.eqv a b))
theorem zuy(hu:X.A.units+64<cLine):OpD X (compareOp .Eq) (λa b Q=>Lay a/\Lay b/\Q (.bool (PyData.eqv a b))):=⟨λpins s σ H x y v u a b Q I rx ry ra rb q=>by
 obtain⟨as,e1⟩:=ra.reads I rx q.1.can;obtain⟨bs,e2⟩:=rb.reads I ry q.2.1.can;exact eq_dataH e1 e2 q.1 q.2.1 hu ⟨.bl _,H,_,I,rfl,Same.refl _,.bl,q.2.2⟩⟩
theorem zuz(hu:X.A.units+64<cLine):OpD X (compareOp .NotEq) (λa b Q=>Lay a/\Lay b/\Q (.bool (!PyData.eqv a b))):=⟨λpins s σ H x y v u a b Q I rx ry ra rb q=>by
 obtain⟨as,e1⟩:=ra.reads I rx q.1.can;obtain⟨bs,e2⟩:=rb.reads I ry q.2.1.can;exact ne_dataH e1 e2 q.1 q.2.1 hu ⟨.bl _,H,_,I,rfl,Same.refl _,.bl,q.2.2⟩⟩
theorem zqv{f:D->D->Bool}(neg:Bool)(op:CmpOp)(h:OpR X (compareOp op) (λx y H Q=>zrq x y=true/\Q (.bl (if neg then !decide (x=y) else decide (x=y))) H)):
  OpD X (compareOp op) (λa b Q=>match a,b with
   |.int i,.int j=>Q (.bool (if neg then !decide (i=j) else decide (i=j)))
   |.str i,.str j=>Q (.bool (if neg then !decide (i=j) else decide (i=j)))
   |.bool i,.bool j=>Q (.bool (if neg then !decide (i=j) else decide (i=j)))
   |_,_=>False):=OpD.of h λx y H a b Q ra rb q=>by
 cases a with
 |int i=>cases b with
  |int j=>
   cases ra.int;cases rb.int;have e:decide (V.int i=V.int j)=decide (i=j):=by rw[Bool.eq_iff_iff];simp
   rw[e];exact⟨rfl,.bool _,Same.refl _,.bl,q⟩
  |_=>exact q.elim
 |str i=>cases b with
  |str j=>
   cases ra.str;cases rb.str;have e:decide (V.str i=V.str j)=decide (i=j):=by rw[Bool.eq_iff_iff];simp
   rw[e];exact⟨rfl,.bool _,Same.refl _,.bl,q⟩
  |_=>exact q.elim
 |bool i=>cases b with
  |bool j=>
   cases ra.bool;cases rb.bool;have e:decide (V.bl i=V.bl j)=decide (i=j):=by rw[Bool.eq_iff_iff];simp
   rw[e];exact⟨rfl,.bool _,Same.refl _,.bl,q⟩
  |_=>exact q.elim
 |_=>exact q.elim
theorem k5{k:Nat}(hr:Room k X.A):OpD X (compareOp .Eq) gEq:=⟨λpins s σ H x y v u a b Q I rx ry ra rb q=>by
 have G:=(zuy (X:=X) hr.units).run pins s σ H x y v u a b Q I rx ry ra rb;have S:=(zqv (X:=X) (f:=λ_ _=>true) false .Eq zqp).run pins s σ H x y v u a b Q I rx ry ra rb
 cases a <;> cases b <;> first|exact S q|exact G q⟩
theorem zhj{k:Nat}(hr:Room k X.A):OpD X (compareOp .NotEq) gNe:=⟨λpins s σ H x y v u a b Q I rx ry ra rb q=>by
 have G:=(zuz (X:=X) hr.units).run pins s σ H x y v u a b Q I rx ry ra rb;have S:=(zqv (X:=X) (f:=λ_ _=>true) true .NotEq zub).run pins s σ H x y v u a b Q I rx ry ra rb
 cases a <;> cases b <;> first|exact S q|exact G q⟩
def isNone:D->Bool
 |.none=>true
 |_=>false
end
structure CallD(X:Cx)(f:Value)(g:List D->(D->Prop)->Prop):Prop where
 run:∀(pins:List (Addr×Obj)) (s:Shared) (σ:St) (H:Hp) (vs:List V) (us:List Value) (ds:List D) (Q:D->Prop),Inv X pins σ H s->Vals vs us->RepTs X.K H ds vs->g ds Q->wpAny (model X.prog X.w) X.A (call f us) (DEnd X pins σ H Q) X.xe s
structure CallF(X:Cx)(f:Value)(g:List D->(List D->Prop)->Prop):Prop where
 run:∀(pins:List (Addr×Obj)) (s:Shared) (σ:St) (H:Hp) (vs:List V) (us:List Value) (ds:List D) (Q:List D->Prop),Inv X pins σ H s->Vals vs us->RepTs X.K H ds vs->g ds Q->wpAny (model X.prog X.w) X.A (call f us) (zfp X pins σ H Q) X.xe s
def dCB(g:List D->(D->Prop)->Prop)(t:DTF):DTE:=λσ Q=>t σ λds=>g ds Q
def dCF(g:List D->(List D->Prop)->Prop)(t:DTF):DTF:=λσ Q=>t σ λds=>g ds Q
section
variable {X:Cx}{f:Value}{g:List D->(D->Prop)->Prop}{gf:List D->(List D->Prop)->Prop}{e:Expr}{es:List Expr}{t:DTF}{x:Str}{p pos:Pos}
theorem CallD.of{r:List V->Hp->VK->Prop}(h:wj X f r)(k:∀vs H ds Q,RepTs X.K H ds vs->g ds Q->r vs H (λv H'=>∃d,Same H H'/\Rep X.K H' d v/\Q d)):CallD X f g :=
 ⟨λpins s σ H vs us ds Q I rv rd q=>thn (h pins s σ H vs us _ I rv (k vs H ds Q rd q)) λw s' zq93=>by obtain⟨z,H',I',rz,d,sm,rp,qd⟩:=zq93;exact⟨z,H',d,I',rz,sm,rp,qd⟩⟩
theorem CallD.cr(h:CallD X f g):wj X f (λvs H Q=>∃ds QD,RepTs X.K H ds vs/\g ds QD/\∀v H' d,Same H H'->Rep X.K H' d v->QD d->Q v H') :=
 λpins s σ H vs us Q I rv zq2=>by obtain⟨ds,QD,rd,q,k⟩:=zq2;exact thn (h.run pins s σ H vs us ds QD I rv rd q) λw s' zq0=>by obtain⟨z,H',d,I',rz,sm,rp,qd⟩:=zq0;exact⟨z,H',I',rz,k z H' d sm rp qd⟩
theorem CallF.cr(h:CallF X f gf):wj X f (λvs H Q=>∃ds QD,RepTs X.K H ds vs/\gf ds QD/\∀a H' ws xs,Same H H'->H a=none->H' a=some (.lst ws)->Reps X.K H' xs ws->QD xs->Q (.ref a) H') :=
 λpins s σ H vs us Q I rv zq2=>by obtain⟨ds,QD,rd,q,k⟩:=zq2;exact thn (h.run pins s σ H vs us ds QD I rv rd q) λw s' zq0=>by obtain⟨a,H',ws,xs,ew,I',sm,n,e,rp,qd⟩:=zq0;exact⟨.ref a,H',I',ew,k a H' ws xs sm n e rp qd⟩
theorem yx{id:String}(hc:CallD X (.builtin id) g)(hg:Gl X x)(hm:X.mg x=none)(hv:bootBuiltins x=some (.builtin id))(ha:DAv X (e::es) t)(hn:x ≠ "__name__" := by decide)(hdb:(x ==("__debug__" : Str))=false:=by decide)
  (he:starEach (e::es) X.env=(false,eval e X.env)::starEach es X.env:=by rfl) (hpl:(backTo pos (starEach es X.env)).any (·.1)=false:=by rfl):DE X (.Call (.Name x p) (e::es) [] pos) (dCB g t) :=
 DE.of (v3 hc.cr hg hm hv ha.pa hn hdb he hpl) λσ H H₀ σD QD ok q=>⟨H₀,σD,_,ok,q,λvs H1 ds s1 r1 q1=>⟨ds,_,r1,q1,λv H' d s2 rp qd=>⟨d,s1.trans s2,rp,qd⟩⟩⟩
theorem j3{id:String}(hc:CallF X (.builtin id) gf)(hg:Gl X x)(hm:X.mg x=none)(hv:bootBuiltins x=some (.builtin id))(ha:DAv X (e::es) t)(hn:x ≠ "__name__" := by decide)(hdb:(x ==("__debug__" : Str))=false:=by decide)
  (he:starEach (e::es) X.env=(false,eval e X.env)::starEach es X.env:=by rfl) (hpl:(backTo pos (starEach es X.env)).any (·.1)=false:=by rfl):DF X (.Call (.Name x p) (e::es) [] pos) (dCF gf t) :=
 DF.of (v3 hc.cr hg hm hv ha.pa hn hdb he hpl) λσ H H₀ σD QD ok q=>⟨H₀,σD,_,ok,q,λvs H1 ds s1 r1 q1=>⟨ds,_,r1,q1,λa H' ws xs s2 n e rp qd=>⟨a,ws,xs,rfl,s1.trans s2,s1.free n,e,rp,qd⟩⟩⟩
theorem xt{id:String}(hc:CallD X (.type id) g)(hg:Gl X x)(hm:X.mg x=none)(hv:bootBuiltins x=some (.type id))(ha:DAv X (e::es) t)(hn:x ≠ "__name__" := by decide)(hdb:(x ==("__debug__" : Str))=false:=by decide)
  (he:starEach (e::es) X.env=(false,eval e X.env)::starEach es X.env:=by rfl) (hpl:(backTo pos (starEach es X.env)).any (·.1)=false:=by rfl):DE X (.Call (.Name x p) (e::es) [] pos) (dCB g t) :=
 DE.of (zkk hc.cr hg hm hv ha.pa hn hdb he hpl) λσ H H₀ σD QD ok q=>⟨H₀,σD,_,ok,q,λvs H1 ds s1 r1 q1=>⟨ds,_,r1,q1,λv H' d s2 rp qd=>⟨d,s1.trans s2,rp,qd⟩⟩⟩
theorem RepTs.one{K:PySem.W.Frag}{H:Hp}{d:D}{vs:List V}(h:RepTs K H [d] vs):∃v,vs = [v]/\RepT K H d v:=by
 cases h with
 |cons r t=>cases t;exact⟨_,rfl,r⟩
theorem RepTs.two{K:PySem.W.Frag}{H:Hp}{d e:D}{vs:List V}(h:RepTs K H [d,e] vs):∃v w,vs = [v,w]/\RepT K H d v/\RepT K H e w:=by
 cases h with
 |cons r t=>cases t with
  |cons r2 t=>cases t;exact⟨_,_,rfl,r,r2⟩
def zsm:List D->(D->Prop)->Prop
 |[.str x],Q=>x.length<=sizeLine/\Q (.int x.length)
 |[.list xs],Q=>Q (.int xs.length)
 |[.tuple xs],Q=>Q (.int xs.length)
 |_,_=>False
theorem zqw:CallD X (.builtin "len") zsm:=CallD.of zlr λvs H ds Q rd q=>by
 match ds,q,rd with
 |[.str x],q,rd=>
  obtain⟨v,rfl,r⟩:=rd.one
  cases r.str;exact⟨_,x.length,rfl,⟨q.1,rfl⟩,_,Same.refl _,.int,q.2⟩
 |[.list xs],q,rd=>
  obtain⟨v,rfl,r⟩:=rd.one;obtain⟨a,vs,rfl,h,r⟩:=r.list.sq;exact⟨_,xs.length,rfl,.inl ⟨vs,h,r.length⟩,_,Same.refl _,.int,q⟩
 |[.tuple xs],q,rd=>
  obtain⟨v,rfl,r⟩:=rd.one;obtain⟨a,vs,rfl,h,r⟩:=r.tuple;exact⟨_,xs.length,rfl,.inr ⟨vs,h,r.length⟩,_,Same.refl _,.int,q⟩
def zsn:List D->(D->Prop)->Prop
 |[.int i,.int j],Q=>Q (.int (min i j))
 |_,_=>False
def zso:List D->(D->Prop)->Prop
 |[.int i,.int j],Q=>Q (.int (max i j))
 |_,_=>False
theorem j4(hc:X.calm=true):CallD X (.builtin "min") zsn:=CallD.of (zkh hc) λvs H ds Q rd q=>by
 match ds,q,rd with
 |[.int i,.int j],q,rd=>
  obtain⟨v,w,rfl,r1,r2⟩:=rd.two
  cases r1.int
  cases r2.int;refine⟨i,j,rfl,_,Same.refl _,.int,?_⟩;have e:(if j<i then j else i)=min i j:=by split <;> lia
  rw[e];exact q
theorem zu0(hc:X.calm=true):CallD X (.builtin "max") zso:=CallD.of (zkg hc) λvs H ds Q rd q=>by
 match ds,q,rd with
 |[.int i,.int j],q,rd=>
  obtain⟨v,w,rfl,r1,r2⟩:=rd.two
  cases r1.int
  cases r2.int;refine⟨i,j,rfl,_,Same.refl _,.int,?_⟩;have e:(if j > i then j else i)=max i j:=by split <;> lia
  rw[e];exact q
def zsp:List D->(D->Prop)->Prop
 |[.int i],Q=>Q (.int i)
 |[.bool b],Q=>Q (.int (if b then 1 else 0))
 |_,_=>False
theorem zu1:CallD X (.type "int") zsp:=CallD.of zki λvs H ds Q rd q=>by
 match ds,q,rd with
 |[.int i],q,rd=>
  obtain⟨v,rfl,r⟩:=rd.one
  cases r.int;exact .inl ⟨i,rfl,_,Same.refl _,.int,q⟩
 |[.bool i],q,rd=>
  obtain⟨v,rfl,r⟩:=rd.one
  cases r.bool;exact .inr ⟨i,rfl,_,Same.refl _,.int,q⟩
def zhk:List D->(D->Prop)->Prop
 |[.list xs],Q=>Q (.tuple xs)
 |[.tuple xs],Q=>Q (.tuple xs)
 |_,_=>False
theorem kg:CallD X (.type "tuple") zhk:=CallD.of zc0 λvs H ds Q rd q=>by
 match ds,q,rd with
 |[.list xs],q,rd=>
  obtain⟨v,rfl,r⟩:=rd.one;obtain⟨a,vs,rfl,h,r⟩:=r.list.sq;exact⟨a,vs,rfl,.inl ⟨h,λl hl=>⟨_,z5 hl _,.tup (SqT.of zq) (r.same (z5 hl _)),q⟩⟩⟩
 |[.tuple xs],q,rd=>
  obtain⟨v,rfl,r⟩:=rd.one;obtain⟨a,vs,rfl,h,r⟩:=r.tuple;exact⟨a,vs,rfl,.inr ⟨h,_,Same.refl _,.tup h r,q⟩⟩
def za9:List D->Option (List Int)
 |[]=>some []
 |.int i::r=>(za9 r).map (i :: ·)
 |_::_=>none
theorem zdk(ns:List Int):za9 (ns.map PyData.int)=some ns:=by
 induction ns with
 |nil=>rfl
 |cons n ns ih=>simp[za9,ih]
theorem zdl{K:PySem.W.Frag}{H:Hp}:∀{xs:List D}{vs:List V}{ns:List Int},Reps K H xs vs->za9 xs=some ns->vs=ns.map V.int
 |[],_,ns,r,e=>by cases r;simp[za9]at e;subst e;rfl
 |x::xs,_,ns,r,e=>by
  cases r with
  |cons r t=>
   cases x with
   |int i=>
    simp only[za9,Option.map_eq_some_iff]at e;obtain⟨ms,e1,rfl⟩:=e
    cases r;rw[zdl t e1];rfl
   |_=>simp[za9]at e
def isD:String->D->Bool
 | "int",.int _=>true
 | "int",.bool _=>true
 | "bool",.bool _=>true
 | "str",.str _=>true
 | "list",.list _=>true
 | "tuple",.tuple _=>true
 | "dict",.dict _=>true
 |_,_=>false
def tyD:D->String
 |.none=> "NoneType"
 |.bool _=> "bool"
 |.int _=> "int"
 |.str _=> "str"
 |.list _=> "list"
 |.tuple _=> "tuple"
 |.dict _=> "dict"
theorem zhl{pins:List (Addr×Obj)}{σ:St}{H:Hp}{s:Shared}{A:Around}{E:Value->Shared->Prop}{Q:Value->Shared->Prop}{c:Value}{b:Bool}{d:D}{v:V}{u:Value}(I:Inv X pins σ H s)(rp:RepT X.K H d v)(ru:RelV v u)(e:PySem.W.kitOne X.K (.type (tyD d)) c=some b)
  (h:∀tk,Q (.bool b) { s with toks:=tk }):wpAny (model X.prog X.w) A (call (.builtin "isinstance") [u,c]) Q E s:=by
 rcases rp with rp |⟨xs,rfl,a,vs,rfl,hr,_⟩
 ·cases rp with
  |non=>cases ru;exact PySem.W.kia_one PySem.W.kitx_none I.kIn True.intro e (λz=>nomatch z) h
  |bl=>cases ru;exact PySem.W.kia_one PySem.W.kitx_bool I.kIn True.intro e (λz=>nomatch z) h
  |int=>obtain⟨t,rfl⟩:=ru;exact PySem.W.kia_one PySem.W.kitx_int I.kIn True.intro e (λz=>nomatch z) h
  |str=>obtain⟨t,rfl⟩:=ru;exact PySem.W.kia_one PySem.W.kitx_str I.kIn True.intro e (λz=>nomatch z) h
  |tup q r=>
   cases ru;obtain⟨its,_,⟨o,h1,h2,_⟩,_⟩:=I.tuple q;exact PySem.W.kia_one PySem.W.kitx_tuple I.kIn ⟨o,h1,h2⟩ e (λz=>nomatch z) h
  |lst q r=>
   cases ru;obtain⟨_,_,_,n,_,h1⟩:=I.hok _ _ q;exact PySem.W.kia_one PySem.W.kitx_list I.kIn ⟨_,h1,rfl⟩ e (λz=>nomatch z) h
  |dic q r=>
   cases ru;obtain⟨_,_,_,vs,_,o,es,ep,h1,h2,_⟩:=I.hok _ _ q;exact PySem.W.kia_one PySem.W.kitx_dict I.kIn ⟨o,h1,h2.1⟩ e (λz=>nomatch z) h
 ·cases ru;obtain⟨_,_,n,_,h1⟩:=hr.ok I.hok;exact PySem.W.kia_one PySem.W.kitx_list I.kIn ⟨_,h1,rfl⟩ e (λz=>nomatch z) h
def dIs(n:String)(t:DTE):DTE:=λσ Q=>t σ λd=>Q (.bool (isD n d))
theorem zsq{n:String}{ta:DTE}{x2:Str}{p2:Pos}(hk:∀d:D,PySem.W.kitOne X.K (.type (tyD d)) (.type n)=some (isD n d))(hg:Gl X "isinstance")(hm:X.mg "isinstance" = none)(hv:bootBuiltins "isinstance" = some (.builtin "isinstance"))(ha:DV X e ta)
  (hg2:Gl X x2) (hm2:X.mg x2=none) (hv2:bootBuiltins x2=some (.type n)) (hn2:x2 ≠ "__name__" := by decide) (hdb2:(x2 ==("__debug__" : Str))=false:=by decide)
  (he:starEach (e :: [.Name x2 p2]) X.env=(false,eval e X.env)::starEach [.Name x2 p2] X.env:=by rfl) (he2:starEach [.Name x2 p2] X.env=(false,eval (.Name x2 p2) X.env)::starEach [] X.env:=by rfl) (hpl:(backTo pos (starEach [.Name x2 p2] X.env)).any (·.1)=false:=by rfl):DE X (.Call (.Name "isinstance" p) [e,.Name x2 p2] [] pos) (dIs n ta):=by
 have hc:wj X (.builtin "isinstance") (λvs H Q=>∃d v,vs = [v,.ty n]/\RepT X.K H d v/\Q (.bl (isD n d)) H):=λpins s σ H xs us Q I rv zq28=>by
  obtain⟨d,v,e,r,q⟩:=zq28;subst e;obtain⟨u,w,rfl,r1,r2⟩:=rv.two
  cases r2;exact zhl I r r1 (hk d) λtk=>⟨.bl (isD n d),H,I.tok tk,rfl,q⟩
 refine DE.of (v3 hc hg hm hv (yw ha.pe (yw (zov (v:=.ty n) hg2 hm2 hv2 rfl hn2 hdb2) x3 he2) he) (by decide) (by decide) he hpl) λσ H H₀ σD QD ok q=>?_;exact⟨H₀,σD,_,ok,q,λv H1 d s1 r1 q1=>⟨d,v,rfl,r1,_,s1,.bl,q1⟩⟩
theorem zu2{K:PySem.W.Frag}(d:D):PySem.W.kitOne K (.type (tyD d)) (.type "str")=some (isD "str" d):=by cases d <;> rfl
variable {a b:Expr}{ta tb:DTE}
def gIx:DOp
 |.list xs,.int i,Q=>∃d,atI xs i=some d/\Q d
 |.tuple xs,.int i,Q=>∃d,atI xs i=some d/\Q d
 |.str x,.int i,Q=>x.length<=sizeLine/\∃c,atI x.cps.toList i=some c/\Q (.str ⟨#[c]⟩)
 |_,_,_=>False
theorem zi4{K:PySem.W.Frag}{H:Hp}{xs:List D}{vs:List V}{i:Int}{d:D}(r:Reps K H xs vs)(h:atI xs i=some d):∃v,atI vs i=some v/\Rep K H d v:=by
 unfold atI at h ⊢;rw[<-r.length]
 cases e:ixN xs.length i with
 |none=>rw[e]at h;cases h
 |some j=>
  rw[e]at h;exact r.get h
theorem zm(ha:DV X a ta)(hb:DE X b tb)(hs:qx b):DE X (.Subscript a b pos) (dOp gIx ta tb) :=
 DE.of (v4 zry ha.pe hb.pe hs) λσ H H₀ σD QD ok q=>⟨H₀,σD,_,ok,q,λv H1 d s1 r1 q1=>⟨H₀,σD,_,ok.after s1,q1,λw H2 d2 s2 r2 q2=>by
  have r1:=r1.same s2;have sm:=s1.trans s2
  cases d2 with
  |int i=>
   cases r2
   cases d with
   |list xs=>
    obtain⟨l,vs,rfl,hl,r⟩:=r1.list.sq;obtain⟨d,e,q⟩:=q2;obtain⟨x,e1,e2⟩:=zi4 r e;exact .inl ⟨l,vs,i,x,rfl,rfl,hl,e1,d,sm,e2,q⟩
   |tuple xs=>
    obtain⟨l,vs,rfl,hl,r⟩:=r1.tuple;obtain⟨d,e,q⟩:=q2;obtain⟨x,e1,e2⟩:=zi4 r e;exact .inr (.inl ⟨l,vs,i,x,rfl,rfl,hl,e1,d,sm,e2,q⟩)
   |str x=>
    cases r1.str;obtain⟨hz,c,e,q⟩:=q2;exact .inr (.inr ⟨x,i,c,rfl,rfl,hz,e,_,sm,.str,q⟩)
   |_=>exact q2.elim
  |_=>cases d <;> exact q2.elim⟩⟩
abbrev DTO:=DSt->(Option Int->Prop)->Prop
structure DO(X:Cx)(e:Option Expr)(t:DTO):Prop where
 po:PO X e (λσ H Q=>∃H₀ σD QD,DOk X.K H₀ H σD σ/\t σD QD/\∀o H',Same H H'->QD o->Q o H')
def zee:DTO:=λ_ Q=>Q none
def zl5(t:DTE):DTO:=λσ Q=>t σ λd=>match d with
 |.int i=>Q (some i)
 |_=>False
theorem zi5:DO X none zee:=⟨λpins s σ H Q I zq40=>by obtain⟨H₀,σD,QD,ok,q,k⟩:=zq40;exact zo1 pins s σ H Q I (k none H (Same.refl _) q)⟩
theorem zbo(h:DE X a ta):DO X (some a) (zl5 ta):=⟨λpins s σ H Q I ⟨H₀,σD,QD,ok,q,k⟩=>zo2 h.pe pins s σ H Q I ⟨H₀,σD,_,ok,q,λv H1 d s1 r1 q1=>by
 cases d with
 |int i=>cases r1;exact⟨i,rfl,k _ _ s1 q1⟩
 |_=>exact q1.elim⟩⟩
def wm(xs:List D)(lo hi:Option Int):List D:=(xs.drop (HT.sIx xs.length 0 lo)).take (HT.sIx xs.length xs.length hi-HT.sIx xs.length 0 lo)
theorem Reps.cut{K:PySem.W.Frag}{H:Hp}{xs:List D}{vs:List V}(r:Reps K H xs vs)(lo hi:Option Int):Reps K H (wm xs lo hi) (zcy vs lo hi):=by
 unfold wm zcy;rw[<-r.length];exact(r.drop _).take _
variable {lo hi:Option Expr}{tl th:DTO}{p2:Pos}
theorem zph:SlR X (λx lo hi H Q=>∃a xs,x=.ref a/\SqT X.K H a xs/\∀p H',Same H H'->SqT X.K H' p (zcy xs lo hi)->Q (.ref p) H'):=by
 intro pins s σ H x v vl vu lo hi sl Q I rx hs pl pu h;obtain⟨a,xs,rfl,hx,q⟩:=h
 by_cases hw:HT.sIx xs.length 0 lo=0/\HT.sIx xs.length xs.length hi=xs.length
 ·cases rx;obtain⟨its,r,ht,hz⟩:=I.tuple hx;have hlen:its.toArray.size=xs.length:=by rw[List.size_toArray];exact r.length.symm
  refine⟨"tuple",_,PyProof.Rows.slot_tuple_getitem.lookup,ht.typeIs,zkn ht hs pl pu (by rw[hlen];exact hw.1) (by rw[hlen];exact hw.2) ⟨.ref a,H,I,rfl,q a H (Same.refl H) ?_⟩⟩;unfold zcy;rw[hw.1,hw.2,List.drop_zero,Nat.sub_zero,List.take_length];exact hx
 ·exact zrw pins s σ H (.ref a) v vl vu lo hi sl Q I rx hs pl pu ⟨a,xs,rfl,hx,hw,λp hp=>q p _ (z5 hp _) (SqT.of zq)⟩
def dSl(te:DTE)(tl th:DTO):DTE:=λσ Q=>te σ λd=>tl σ λl=>th σ λu=>match d with
 |.list xs=>Q (.list (wm xs l u))
 |.tuple xs=>Q (.tuple (wm xs l u))
 |_=>False
theorem zfs(he:DV X e ta)(hl:DO X lo tl)(hu:DO X hi th):DE X (.Subscript e (.Slice lo hi none p2) pos) (dSl ta tl th):=⟨λpins s σ H H₀ σD Q I ok q=>by
 refine thn (zfj (SlR.or zi2 zph) he.pe hl.po hu.po pins s σ H (λv H'=>(∃d,Same H H'/\Rep X.K H' d v/\Q d)\/∃p vs xs,v=.ref p/\Same H H'/\H p=none/\H' p=some (.lst vs)/\Reps X.K H' xs vs/\Q (.list xs)) I ?_) λu s' ⟨v,H',I',r,z⟩=>?_
 ·exact⟨H₀,σD,_,ok,q,λv H1 d s1 r1 q1=>⟨H₀,σD,_,ok.after s1,q1,λl H2 s2 q2=>⟨H₀,σD,_,(ok.after s1).after s2,q2,λu H3 s3 q3=>by
   cases d with
   |list xs=>
    obtain⟨b,vs,rfl,hb,r⟩:=((r1.same s2).same s3).list.sq;exact .inl ⟨b,vs,rfl,hb,λp hp=>.inr ⟨p,_,_,rfl,((s1.trans s2).trans s3).trans (z5 hp _),((s1.trans s2).trans s3).free hp,zq,(r.cut l u).same (z5 hp _),q3⟩⟩
   |tuple xs=>
    obtain⟨b,vs,rfl,hb,r⟩:=((r1.same s2).same s3).tuple;exact .inr ⟨b,vs,rfl,hb,λp H4 s4 e4=>.inl ⟨_,((s1.trans s2).trans s3).trans s4,.tup e4 ((r.cut l u).same s4),q3⟩⟩
   |_=>exact q3.elim⟩⟩⟩
 ·rcases z with⟨d,sm,rp,qd⟩ |⟨p,vs,xs,rfl,sm,n,e,rp,qd⟩
  ·exact⟨v,H',d,I',r,sm,rp,qd⟩
  ·obtain⟨H'',J,sm',r'⟩:=zb3 I' sm n e rp;exact⟨.ref p,H'',.list xs,J,r,sm',r',qd⟩⟩
def zef(i:Nat)(tl th:DTO):DTF:=λσ Q=>match σ[i]? with
 |some (some (.scr ns))=>tl σ λl=>th σ λu=>Q ((wm (ns.map PyData.int) l u))
 |_=>False
theorem zsr(i:Nat){x:Str}{pos':Pos}(hl:DO X lo tl)(hu:DO X hi th)(hN:X.N[i]?=some x:=by rfl)(hv:Vis X.env.scope x:=by first|exact Or.inl rfl|exact Or.inr (Or.inl rfl)|exact Or.inr (Or.inr rfl))(hd:(x ==("__debug__" : Str))=false:=by decide)
  (hcd:(x ==("__classdict__" : Str))=false:=by decide):DF X (.Subscript (.Name x pos') (.Slice lo hi none p2) pos) (zef i tl th) :=
 DF.of (zfj zi2 (y4 (i:=i) hN hv hd hcd) hl.po hu.po) λσ H H₀ σD QD ok q=>by
  unfold zef at q
  split at q
  ·next ns e=>
   obtain⟨b,e1,hb⟩:=ok.scr e;exact⟨_,e1,H₀,σD,_,ok,q,λl H2 s2 q2=>⟨H₀,σD,_,ok.after s2,q2,λu H3 s3 q3=>⟨b,_,rfl,s3.seq (s2.seq hb),λp hp=>⟨p,_,_,rfl,(s2.trans s3).trans (z5 hp _),(s2.trans s3).free hp,zq,Reps.ints.cut l u,q3⟩⟩⟩⟩
  ·exact q.elim
def zbp(i:Nat):DTE:=λσ Q=>match σ[i]? with
 |some (some (.scr ns))=>Q (.int ns.length)
 |_=>False
theorem zko(i:Nat){x:Str}{pos':Pos}(hg:Gl X "len")(hm:X.mg "len" = none)(hN:X.N[i]?=some x:=by rfl)(hv:Vis X.env.scope x:=by first|exact Or.inl rfl|exact Or.inr (Or.inl rfl)|exact Or.inr (Or.inr rfl))(hd:(x ==("__debug__" : Str))=false:=by decide)
  (hcd:(x ==("__classdict__" : Str))=false:=by decide):DE X (.Call (.Name "len" p) [.Name x pos'] [] pos) (zbp i) :=
 DE.of (v3 zea hg hm PySem.boot_len (yw (y4 (i:=i) hN hv hd hcd) x3)) λσ H H₀ σD QD ok q=>by
  unfold zbp at q
  split at q
  ·next ns e=>
   obtain⟨b,e1,hb⟩:=ok.scr e;exact⟨_,e1,b,_,rfl,.inl hb,_,Same.refl _,.int,by rw[List.length_map];exact q⟩
  ·exact q.elim
def zeg(i:Nat)(tb:DTE):DTE:=λσ Q=>match σ[i]? with
 |some (some (.scr ns))=>tb σ λd=>match d with
  |.int k=>∃n,atI ns k=some n/\Q (.int n)
  |_=>False
 |_=>False
theorem zpi{α β:Type}(f:α->β)(xs:List α)(i:Int):atI (xs.map f) i=(atI xs i).map f:=by
 unfold atI;rw[List.length_map]
 cases ixN xs.length i with
 |none=>rfl
 |some j=>simp
theorem zl6(i:Nat){x:Str}{pos':Pos}(hb:DE X b tb)(hs:qx b)(hN:X.N[i]?=some x:=by rfl)(hv:Vis X.env.scope x:=by first|exact Or.inl rfl|exact Or.inr (Or.inl rfl)|exact Or.inr (Or.inr rfl))(hd:(x ==("__debug__" : Str))=false:=by decide)
  (hcd:(x ==("__classdict__" : Str))=false:=by decide):DE X (.Subscript (.Name x pos') b pos) (zeg i tb) :=
 DE.of (v4 ix_list (y4 (i:=i) hN hv hd hcd) hb.pe hs) λσ H H₀ σD QD ok q=>by
  unfold zeg at q
  split at q
  ·next ns e=>
   obtain⟨b,e1,hb⟩:=ok.scr e;refine⟨_,e1,H₀,σD,_,ok,q,λw H2 d2 s2 r2 q2=>?_⟩
   cases d2 with
   |int k=>
    cases r2;obtain⟨n,en,q⟩:=q2;exact⟨b,_,k,.int n,rfl,rfl,s2.seq hb,by rw[zpi,en];rfl,_,s2,.int,q⟩
   |_=>exact q2.elim
  ·exact q.elim
end
structure ItOk(K:PySem.W.Frag)(Kp:Hp->Hp->Prop)(J:It)(H1:Hp)(ds:List D):Prop where
 go:∀H i d,Kp H1 H->ds[i]?=some d->J.go i H/\∀x H',J.yld i H x H'->Same H H'/\Rep K H' d x
 stop:∀H,Kp H1 H->J.stop ds.length H
theorem ItOk.weak{K:PySem.W.Frag}{J:It}{H1:Hp}{ds:List D}(h:ItOk K Pers J H1 ds):ItOk K Same J H1 ds:=⟨λH i d s=>h.go H i d s.pers,λH s=>h.stop H s.pers⟩
def cnI(K:PySem.W.Frag)(Kp:Hp->Hp->Prop)(t:DTF):TI:=λσ H R=>∃H₀ σD QD,DOk K H₀ H σD σ/\t σD QD/\∀J H1 ds,Same H H1->ItOk K Kp J H1 ds->QD ds->R J H1
structure DI(X:Cx)(tg iter:Expr)(t:DTF):Prop where
 pi:PI X tg iter (cnI X.K Pers t)
structure DIw(X:Cx)(tg iter:Expr)(t:DTF):Prop where
 pi:PI X tg iter (cnI X.K Same t)
section
variable {X:Cx}{tg iter e:Expr}{t:DTF}{te:DTE}{p pos:Pos}
theorem DI.w(h:DI X tg iter t):DIw X tg iter t:=⟨λpins s σ H R I zq56=>by obtain⟨H₀,σD,QD,ok,q,k⟩:=zq56;exact h.pi pins s σ H R I ⟨H₀,σD,QD,ok,q,λJ H1 ds s1 o qd=>k J H1 ds s1 o.weak qd⟩⟩
theorem zl7{l:Expr}{tl:TE}(hl:PE X l tl):PI X tg l (λσ H R=>tl σ H λx H1=>(∃a xs,x=.ref a/\SqL X.K H1 a xs/\R (Itl X.K a) H1)\/∃a xs,x=.ref a/\SqT X.K H1 a xs/\R (Itt X.K a) H1):=by
 intro pins s σ H R I h;refine thn (hl pins s σ H _ I h) λv s1 zr22=>?_;obtain⟨x,H1,I1,r1,q1⟩:=zr22;rcases q1 with⟨a,xs,e,hq,q⟩ |⟨a,xs,e,hq,q⟩
 ·subst e
  cases r1;obtain⟨its,rv,p,hz⟩:=I1.list hq;refine wpAny_pyIter_list p.isList ?_;refine⟨s1.heap.objs.size,[s1.heap.objs.size],_,_,H1,rfl,I1.kept (t':=s1.toks) λb o e=>Heap.get?_push_of_some _ e,zkc a _,⟨_,Heap.get?_push_size _ rfl,rfl,rfl⟩,λb hb=>?_,q⟩;have e:b=s1.heap.objs.size:=by simpa using hb
  subst e;exact I1.fpOk (Nat.le_refl _) (I1.hok.fresh (Nat.le_refl _))
 ·subst e
  cases r1;obtain⟨its,rv,p,hz⟩:=I1.tuple hq;refine wpAny_pyIter_tuple (show s1.heap.IsTuple a its.toArray from p) ?_;refine⟨s1.heap.objs.size,[s1.heap.objs.size],_,_,H1,rfl,I1.kept (t':=s1.toks) λb o e=>Heap.get?_push_of_some _ e,zg6 a _,⟨_,Heap.get?_push_size _ rfl,rfl,rfl⟩,λb hb=>?_,q⟩;have e:b=s1.heap.objs.size:=by simpa using hb
  subst e;exact I1.fpOk (Nat.le_refl _) (I1.hok.fresh (Nat.le_refl _))
def zi6(te:DTE):DTF:=λσ Q=>te σ λd=>match d with
 |.list xs=>Q xs
 |.tuple xs=>Q xs
 |_=>False
theorem zl8{K:PySem.W.Frag}{Kp:Hp->Hp->Prop}{H1:Hp}{a:Addr}{xs:List D}{vs:List V}(kp:∀H,Kp H1 H->SqL K H a vs/\Reps K H xs vs):ItOk K Kp (Itl K a) H1 xs where
 go:=λH i d k e=>by
  obtain⟨hs,r⟩:=kp H k;obtain⟨v,e1,r1⟩:=r.get e;refine⟨⟨vs,v,hs,e1⟩,λx H' y=>?_⟩;obtain⟨rfl,y⟩:=y;have:=y vs hs;rw[e1]at this
  cases this;exact⟨Same.refl _,r1⟩
 stop:=λH k=>by
  obtain⟨hs,r⟩:=kp H k;exact⟨vs,hs,by rw[r.length];exact Nat.le_refl _⟩
theorem zl9{K:PySem.W.Frag}{Kp:Hp->Hp->Prop}{H1:Hp}{a:Addr}{xs:List D}{vs:List V}(kp:∀H,Kp H1 H->SqT K H a vs/\Reps K H xs vs):ItOk K Kp (Itt K a) H1 xs where
 go:=λH i d k e=>by
  obtain⟨hs,r⟩:=kp H k;obtain⟨v,e1,r1⟩:=r.get e;refine⟨⟨vs,v,hs,e1⟩,λx H' y=>?_⟩;obtain⟨rfl,y⟩:=y;have:=y vs hs;rw[e1]at this
  cases this;exact⟨Same.refl _,r1⟩
 stop:=λH k=>by
  obtain⟨hs,r⟩:=kp H k;exact⟨vs,hs,by rw[r.length];exact Nat.le_refl _⟩
theorem Pers.sqF{K:PySem.W.Frag}{H H':Hp}{a:Addr}{o:Obj}{vs:List V}(p:Pers H H')(h:H a=some (.frz o (.lst vs))):SqL K H' a vs:=.inl (.inr ⟨o,p _ _ h rfl⟩)
theorem v6(h:DE X e te):DI X tg e (zi6 te):=⟨λpins s σ H R I ⟨H₀,σD,QD,ok,q,k⟩=>zl7 h.pe pins s σ H R I ⟨H₀,σD,_,ok,q,λv H1 d s1 r1 q1=>by
 cases d with
 |list xs=>
  cases r1 with
  |lst hf r=>exact .inl ⟨_,_,rfl,.inl (.inr ⟨_,hf⟩),k _ _ xs s1 (zl8 λH' pr=>⟨pr.sqF hf,r.mono pr⟩) q1⟩
 |tuple xs=>
  cases r1 with
  |tup hf r=>exact .inr ⟨_,_,rfl,hf,k _ _ xs s1 (zl9 λH' pr=>⟨pr.sqT hf,r.mono pr⟩) q1⟩
 |_=>exact q1.elim⟩⟩
theorem RepL.sq'{K:PySem.W.Frag}{H H':Hp}{a:Addr}{vs:List V}(s:Same H H')(h:Rd H a (.lst vs)):SqL K H' a vs:=by
 rcases h with h |⟨o,h⟩
 ·exact .inl (.inl (s _ _ h))
 ·exact .inl (.inr ⟨o,s _ _ h⟩)
theorem wk(h:DV X e te):DIw X tg e (zi6 te):=⟨λpins s σ H R I ⟨H₀,σD,QD,ok,q,k⟩=>zl7 h.pe pins s σ H R I ⟨H₀,σD,_,ok,q,λv H1 d s1 r1 q1=>by
 cases d with
 |list xs=>
  obtain⟨a,vs,rfl,hf,r⟩:=r1.list;exact .inl ⟨_,_,rfl,.inl hf,k _ _ xs s1 (zl8 λH' pr=>⟨RepL.sq' pr hf,r.same pr⟩) q1⟩
 |tuple xs=>
  obtain⟨a,vs,rfl,hf,r⟩:=r1.tuple;exact .inr ⟨_,_,rfl,hf,k _ _ xs s1 (zl9 λH' pr=>⟨pr.pers.sqT hf,r.same pr⟩) q1⟩
 |_=>exact q1.elim⟩⟩
def y0(lo:Int)(n:Nat):List D:=(List.range n).map λi=>.int (lo+(i:Nat))
theorem zma{K:PySem.W.Frag}{Kp:Hp->Hp->Prop}{H1:Hp}(lo:Int)(n:Nat):ItOk K Kp (Itr lo n) H1 (y0 lo n) where
 go:=λH i d k e=>by
  have hi:i<n:=by have:=(List.getElem?_eq_some_iff.mp e).1;simpa[y0]using this
  refine⟨hi,λx H' y=>?_⟩;obtain⟨rfl,rfl⟩:=y;refine⟨Same.refl _,?_⟩;simp[y0,List.getElem?_map,List.getElem?_range hi]at e;subst e;exact .int
 stop:=λH k=>by
  show n<=(y0 lo n).length;simp[y0]
def zeh(ta:DTF):DTF:=λσ Q=>ta σ λds=>match ds with
 |[.int j]=>(-(2 ^ 62)<=j/\j<2 ^ 62)/\Q (y0 0 j.toNat)
 |_=>False
def zei(ta:DTF):DTF:=λσ Q=>ta σ λds=>match ds with
 |[.int i,.int j]=>(-(2 ^ 62)<=i/\i<2 ^ 62/\-(2 ^ 62)<=j/\j<2 ^ 62)/\Q (y0 i (j-i).toNat)
 |_=>False
variable {a b:Expr}
theorem kh(hg:Gl X "range")(hm:X.mg "range" = none)(ha:DA X [a] t)(hs:starEach [a] X.env = [(false,eval a X.env)]:=by rfl):DI X tg (.Call (.Name "range" p) [a] [] pos) (zeh t) :=
 ⟨λpins s σ H R I ⟨H₀,σD,QD,ok,q,k⟩=>zkd hg hm ha.pa hs pins s σ H R I ⟨H₀,σD,_,ok,q,λvs H1 ds s1 r1 q1=>by
  match ds,r1,q1 with
  |[.int j],r1,q1=>
   cases r1 with
   |cons r t=>
    cases t
    cases r;exact⟨j,rfl,q1.1.1,q1.1.2,k _ _ _ s1 (zma 0 j.toNat) q1.2⟩⟩⟩
theorem zkp(hg:Gl X "range")(hm:X.mg "range" = none)(ha:DA X [a,b] t)(hs:starEach [a,b] X.env = [(false,eval a X.env),(false,eval b X.env)]:=by rfl)(hs2:starEach [b] X.env = [(false,eval b X.env)]:=by rfl):DI X tg (.Call (.Name "range" p) [a,b] [] pos) (zei t) :=
 ⟨λpins s σ H R I ⟨H₀,σD,QD,ok,q,k⟩=>zke hg hm ha.pa hs hs2 pins s σ H R I ⟨H₀,σD,_,ok,q,λvs H1 ds s1 r1 q1=>by
  match ds,r1,q1 with
  |[.int i,.int j],r1,q1=>
   cases r1 with
   |cons r t=>
    cases t with
    |cons r2 t=>
     cases t
     cases r
     cases r2;exact⟨i,j,rfl,q1.1,k _ _ _ s1 (zma i (j-i).toNat) q1.2⟩⟩⟩
abbrev DTG:=D->DSt->(DSt->Prop)->Prop
abbrev zej:=List D->DSt->(DSt->Prop)->Prop
structure DG(X:Cx)(tg:Expr)(is:List Nat)(g:DTG):Prop where
 run:∀(pins:List (Addr×Obj)) (s:Shared) (σ:St) (H H₀:Hp) (σD:DSt) (v:V) (u:Value) (d:D) (Q:DSt->Prop),Inv X pins σ H s->DOk X.K H₀ H σD σ->RelV v u->Rep X.K H d v->g d σD Q ->
  wpAny (model X.prog X.w) X.A (assign tg X.env u) (λ_ s'=>∃σ' σD',Inv X pins σ' H s'/\DOk X.K H₀ H σD' σ'/\(∀j,j∉is->σ'[j]?=σ[j]?)/\Q σD') X.xe s
structure DGs(X:Cx)(ts:List Expr)(is:List Nat)(g:zej):Prop where
 run:∀(pins:List (Addr×Obj)) (s:Shared) (σ:St) (H H₀:Hp) (σD:DSt) (vs:List V) (us:List Value) (ds:List D) (Q:DSt->Prop),Inv X pins σ H s->DOk X.K H₀ H σD σ->Vals vs us->Reps X.K H ds vs->g ds σD Q ->
  wpAny (model X.prog X.w) X.A (assignInOrder ((assignEach ts X.env).map (·.2)) us) (λ_ s'=>∃σ' σD',Inv X pins σ' H s'/\DOk X.K H₀ H σD' σ'/\(∀j,j∉is->σ'[j]?=σ[j]?)/\Q σD') X.xe s
def zhm(i:Nat):DTG:=λd σ Q=>Q (σ.set i (some (.val d)))
theorem zf{i:Nat}{x:Str}(hN:X.N.Nodup)(hi:X.N[i]?=some x)(hx:Loc X.env.scope x)(hf:X.fn x=true\/X.env.scope.names.lookup x=some .local:=by first|exact .inl rfl|exact .inr rfl|assumption):DG X (.Name x pos) [i] (zhm i) :=
 ⟨λpins s σ H H₀ σD v u d Q I ok r rp q=>wpAny_assign_Name (jv I hN hi hx r (λs' I'=>⟨_,_,I',ok.setV rp i,λj hj=>List.getElem?_set_ne (λz=>hj (by simp[z])),q⟩) hf)⟩
def zmb:zej:=λds σ Q=>ds = []/\Q σ
def zhn(g:DTG)(gs:zej):zej:=λds σ Q=>match ds with
 |d::r=>g d σ λσ'=>gs r σ' Q
 |[]=>False
theorem yf:DGs X [] [] zmb:=⟨λpins s σ H H₀ σD vs us ds Q I ok r rp q=>by
 obtain⟨rfl,q⟩:=q
 cases rp
 cases r;exact assignInOrder_nil ⟨σ,σD,I,ok,λ_ _=>rfl,q⟩⟩
theorem ze{e:Expr}{es:List Expr}{i1 i2:List Nat}{g:DTG}{gs:zej}(h1:DG X e i1 g)(h2:DGs X es i2 gs)
  (hs:(assignEach (e::es) X.env).map (·.2)=assign e X.env::(assignEach es X.env).map (·.2):=by rfl):DGs X (e::es) (i1++i2) (zhn g gs):=⟨λpins s σ H H₀ σD vs us ds Q I ok r rp q=>by
 cases rp with
 |nil=>exact q.elim
 |cons rd rds=>
  cases r with
  |cons r rr=>
   rw[hs];refine assignInOrder_cons (thn (h1.run pins s σ H H₀ σD _ _ _ _ I ok r rd q) λ_ s1 zr48=>?_);obtain⟨σ1,σD1,I1,ok1,f1,q1⟩:=zr48;refine thn (h2.run pins s1 σ1 H H₀ σD1 _ _ _ Q I1 ok1 rr rds q1) λ_ s2 ⟨σ2,σD2,I2,ok2,f2,q2⟩=>⟨σ2,σD2,I2,ok2,λj hj=>?_,q2⟩
   rw[f2 j (λz=>hj (List.mem_append_right _ z)),f1 j (λz=>hj (List.mem_append_left _ z))]⟩
def zmc(n:Nat)(gs:zej):DTG:=λd σ Q=>match d with
 |.tuple xs=>xs.length=n/\gs xs σ Q
 |_=>False
theorem zss{es:List Expr}{k:Nat}{is:List Nat}{gs:zej}{n:Nat}(hc:X.calm=true)(h:DGs X es is gs)(hn:(assignEach es X.env).length=n:=by rfl)(hst:(assignEach es X.env).findIdx? (·.1)=none:=by rfl):DG X (.Tuple es k pos) is (zmc n gs):=⟨λpins s σ H H₀ σD v u d Q I ok r rp q=>by
 cases d with
 |tuple xs=>
  obtain⟨hl,q⟩:=q
  cases rp with
  |tup hq rr=>
   cases r;obtain⟨its,rv,ht,hz⟩:=I.tuple hq;refine assign_Tuple_tuple (I.ok.hd hc) ht (by simp[hn,<-hl,<-rv.length,rr.length]) hst λh' hx=>?_;have I1:Inv X pins σ H { s with heap:=h' }:=I.kept (t':=s.toks) λb o e=>hx b o (Nat.ne_of_lt (Heap.lt_size e)) e;exact h.run pins _ σ H H₀ σD _ _ xs Q I1 ok (by simpa using rv) rr q
 |_=>exact q.elim⟩
def lcD(f:D->(Option D->Prop)->Prop):List D->(List D->Prop)->Prop
 |[],Q=>Q []
 |d::ds,Q=>f d λo=>lcD f ds λys=>Q (match o with|some y=>y::ys|none=>ys)
def zft:Option W->Option W
 |some (.own (.lst xs))=>some (.vw xs)
 |some (.own (.dct xs))=>some (.vd xs)
 |some (.own (.nst _ _))=>none
 |some (.own (.anc _ _))=>none
 |some (.own (.ins _ _))=>none
 |some (.own (.mix _))=>none
 |some (.own (.tk _))=>none
 |some (.own (.dcT _))=>none
 |some (.own (.dcD _))=>none
 |some (.own (.insF _ _ _ _))=>none
 |some (.own (.insL _ _))=>none
 |some (.tmp _)=>none
 |w=>w
def y2(k:Nat)(js:List Nat)(σ:DSt):DSt:=List.replicate k none++js.map λj=>zft (σ[j]?).join
def lcF(g:DTG)(tt:DTT)(te:DTE)(σ0:DSt):D->(Option D->Prop)->Prop:=λd k=>g d σ0 λσ2=>tt σ2 λb=>if b=true then te σ2 λy=>k (some y) else k none
def dLC(k:Nat)(js:List Nat)(ti:DTF)(g:DTG)(tt:DTT)(te:DTE):DTF:=λσ Q=>ti σ λds=>ds.length<=sizeLine/\lcD (lcF g tt te (y2 k js σ)) ds Q
structure DTs(X:Cx)(ifs:List Expr)(t:DTT):Prop where
 pts:PTs X ifs (cnT X.K t)
def zmd:DTT:=λ_ Q=>Q true
theorem j5:DTs X [] zmd:=⟨λpins s σ H Q I zq37=>by obtain⟨H₀,σD,QD,ok,q,k⟩:=zq37;exact zo5 pins s σ H Q I (k true H (Same.refl _) q)⟩
theorem ki{c:Expr}{t:DTT}(h:DT X c t):DTs X [c] t:=⟨zo6 h.pt⟩
theorem Slots.keepN{K:PySem.W.Frag}{H₀ H:Hp}{σD:DSt}{σ:St}{fp:List Addr}(h:Slots K H₀ H σD σ fp):∀{σ':St},σ'.length=σ.length->(∀j:Nat,σD[j]?=some Option.none\/σ'[j]?=σ[j]?)->Slots K H₀ H σD σ' fp:=by
 induction h with
 |nil=>intro σ' hl _;cases σ' with
  |nil=>exact .nil
  |cons _ _=>simp at hl
 |none t ih=>
  intro σ' hl k
  cases σ' with
  |nil=>simp at hl
  |cons x σ'=>exact .none (ih (by simpa using hl) λj=>by simpa using k (j+1))
 |val r t ih=>
  intro σ' hl k
  cases σ' with
  |nil=>simp at hl
  |cons x σ'=>
   have:=k 0;simp at this;subst this;exact .val r (ih (by simpa using hl) λj=>by simpa using k (j+1))
 |vw r t ih=>
  intro σ' hl k
  cases σ' with
  |nil=>simp at hl
  |cons x σ'=>
   have:=k 0;simp at this;subst this;exact .vw r (ih (by simpa using hl) λj=>by simpa using k (j+1))
 |vd r t ih=>
  intro σ' hl k
  cases σ' with
  |nil=>simp at hl
  |cons x σ'=>
   have:=k 0;simp at this;subst this;exact .vd r (ih (by simpa using hl) λj=>by simpa using k (j+1))
 |exc r t ih=>
  intro σ' hl k
  cases σ' with
  |nil=>simp at hl
  |cons x σ'=>
   have:=k 0;simp at this;subst this;exact .exc r (ih (by simpa using hl) λj=>by simpa using k (j+1))
 |scr r t ih=>
  intro σ' hl k
  cases σ' with
  |nil=>simp at hl
  |cons x σ'=>
   have:=k 0;simp at this;subst this;exact .scr r (ih (by simpa using hl) λj=>by simpa using k (j+1))
 |pen r t ih=>
  intro σ' hl k
  cases σ' with
  |nil=>simp at hl
  |cons x σ'=>
   have:=k 0;simp at this;subst this;exact .pen r (ih (by simpa using hl) λj=>by simpa using k (j+1))
 |tmp r t ih=>
  intro σ' hl k
  cases σ' with
  |nil=>simp at hl
  |cons x σ'=>
   have:=k 0;simp at this;subst this;exact .tmp r (ih (by simpa using hl) λj=>by simpa using k (j+1))
 |own r t ih=>
  intro σ' hl k
  cases σ' with
  |nil=>simp at hl
  |cons x σ'=>
   have:=k 0;simp at this;subst this;exact .own r (ih (by simpa using hl) λj=>by simpa using k (j+1))
theorem DOk.keepN{K:PySem.W.Frag}{H₀ H:Hp}{σD:DSt}{σ σ':St}(h:DOk K H₀ H σD σ)(hl:σ'.length=σ.length)(k:∀j:Nat,σD[j]?=some Option.none\/σ'[j]?=σ[j]?):DOk K H₀ H σD σ':=let ⟨s,fp,sl,r⟩:=h;⟨s,fp,sl.keepN hl k,r⟩
theorem DOk.block{K:PySem.W.Frag}{H₀ H:Hp}{σD:DSt}{σ:St}(h:DOk K H₀ H σD σ)(k:Nat)(js:List Nat):DOk K H H (y2 k js σD) (z9 k js σ):=by
 refine⟨Same.refl _,[],?_,List.nodup_nil,λa ha=>by cases ha⟩;have two:∀js:List Nat,Slots K H H (js.map λj=>zft (σD[j]?).join) (js.map λj=>(σ[j]?).join) []:=by
  intro js
  induction js with
  |nil=>exact .nil
  |cons j js ih=>
   simp only[List.map_cons];have nn:∀v,Slots K H H (none::js.map λj=>zft (σD[j]?).join) (v::js.map λj=>(σ[j]?).join) []:=λv=>.none ih
   cases e:σD[j]? with
   |none=>exact nn _
   |some o=>
    cases o with
    |none=>exact nn _
    |some w=>
     cases w with
     |val d=>
      obtain⟨v,e1,r⟩:=h.val e;rw[e1];exact .val r ih
     |vw xs=>
      obtain⟨v,e1,r⟩:=h.vw e;rw[e1];exact .vw r ih
     |vd xs=>
      obtain⟨v,e1,r⟩:=h.vd e;rw[e1];exact .vd r ih
     |exc xs=>
      obtain⟨v,e1,r⟩:=h.exc e;rw[e1];exact .exc r ih
     |scr ns=>
      obtain⟨a,e1,r⟩:=h.scr e;rw[e1];exact .scr r ih
     |pen=>
      obtain⟨a,e1,r⟩:=h.pen e;rw[e1];exact .pen r ih
     |tmp d=>exact nn _
     |own o=>
      cases o with
      |lst xs=>
       obtain⟨a,vs,e1,e2,r,_⟩:=h.ownL e;rw[e1];exact .vw ⟨a,vs,rfl,.inl e2,r⟩ ih
      |dct xs=>
       obtain⟨a,vs,e1,e2,r,_⟩:=h.ownD e;rw[e1];exact .vd ⟨a,vs,rfl,e2,r⟩ ih
      |nst xss ds=>exact nn _
      |anc _ _=>exact nn _
      |ins _ _=>exact nn _
      |mix _=>exact nn _
      |tk _=>exact nn _
      |dcT _=>exact nn _
      |dcD _=>exact nn _
      |insF _ _ _ _=>exact nn _
      |insL _ _=>exact nn _
      |fzT xs=>
       obtain⟨s,fp,sl,nd,fr⟩:=id h;obtain⟨v,e1,f,⟨a,oo,vs,rfl,rfl,e2,r⟩,m⟩:=sl.get e;rw[e1];exact .own (f:=[]) ⟨a,oo,vs,rfl,rfl,e2,r⟩ ih
 unfold y2 z9
 induction k with
 |zero=>exact two js
 |succ k ih=>exact .none ih
theorem zfu{g:DTG}{tt:DTT}{te:DTE}{k:Nat}{js is:List Nat}{σ:St}{σD:DSt}{H₀ H1:Hp}{J:It}{ds:List D}{QD:List D->Prop}{Dd:Addr}{gL:TG}(ok:DOk X.K H₀ H1 σD σ)(it:ItOk X.K Same J H1 ds)(hz:ds.length<=sizeLine)
  (hg:∀d v σ' H' Q (σ0:DSt),DOk X.K H1 H' σ0 σ'->Rep X.K H' d v->g d σ0 Q->gL v σ' H' (λσ2 H2=>H2=H'/\σ2.length=σ'.length/\(∀j,j∉is->σ2[j]?=σ'[j]?)/\∃σD2,DOk X.K H1 H' σD2 σ2/\Q σD2))
  (mono:∀v σ' H' (Q Q':St->Hp->Prop),(∀σ2 H2,Q σ2 H2->Q' σ2 H2)->gL v σ' H' Q->gL v σ' H' Q')
  (his:∀j∈is,j<k) (hn:H1 Dd=none) (q:lcD (lcF g tt te (y2 k js σD)) ds QD) :
  zbn J Dd gL (cnT X.K tt) (cnE X.K te) (z9 k js σ) H1 (λv H'=>∃a vs xs,v=.ref a/\Same H1 H'/\H1 a=none/\H' a=some (.lst vs)/\Reps X.K H' xs vs/\QD xs):=by
 have sub:∀{Q1:List D->Prop}{i:Nat}{d:D},ds[i]?=some d->lcD (lcF g tt te (y2 k js σD)) (ds.drop i) Q1=lcF g tt te (y2 k js σD) d (λo=>lcD (lcF g tt te (y2 k js σD)) (ds.drop (i+1)) λys=>Q1 (match o with|some y=>y::ys|none=>ys)):=λ{Q1 i d} e=>by
  obtain⟨hi,e'⟩:=List.getElem?_eq_some_iff.mp e;rw[List.drop_eq_getElem_cons hi,e'];rfl
 refine⟨λi m σ' H'=>m=ds.length-i/\i<=ds.length/\Same H1 H'/\σ'.length=(z9 k js σ).length/\(∀j,k<=j->σ'[j]?=(z9 k js σ)[j]?)/\∃acc vs,H' Dd=some (.lst vs)/\Reps X.K H' acc vs/\acc.length<=i/\lcD (lcF g tt te (y2 k js σD)) (ds.drop i) (λys=>QD (acc++ys)),
  ⟨ds.length,rfl,Nat.zero_le _,z5 hn _,rfl,λ_ _=>rfl,[],[],zq,.nil,Nat.le_refl _,q⟩,?_⟩
 intro i m σ' H' zz;refine gg λG zk=>?_;obtain⟨zem,hi,sm,hl,fr,acc,vs,eD,ra,la,q1⟩:=zz;refine zk ?_;clear zk;subst zem;have ok1:DOk X.K H1 H' (y2 k js σD) σ':=by
  refine DOk.keepN ((ok.block k js).after sm) hl λj=>?_
  by_cases hj:j<k
  ·left;unfold y2;rw[List.getElem?_append_left (by simpa using hj),List.getElem?_replicate,if_pos hj]
  ·right;exact fr j (by (clear hz hi hl la;lia))
 by_cases hlt:i<ds.length
 ·have e:ds[i]?=some ds[i]:=by simp[hlt]
  obtain⟨go,yl⟩:=it.go H' i ds[i] sm e;refine .inr ⟨go,λx H2 y=>?_⟩;obtain⟨s2,r2⟩:=yl x H2 y;rw[sub e]at q1;refine mono _ _ _ _ _ (λσ2 H3 z=>?_) (hg ds[i] x σ' H2 _ _ (ok1.after s2) r2 q1);obtain⟨rfl,l2,f2,σD2,ok2,q2⟩:=z;have fr2:∀j,k<=j->σ2[j]?=(z9 k js σ)[j]?:=λj hj=>by rw[f2 j (λz=>absurd (his j z) (by (clear hz hl la l2;lia))),fr j hj]
  refine⟨H1,σD2,_,ok2,q2,λb H4 s4 q4=>?_⟩
  cases b with
  |true=>
   rw[if_pos rfl]at q4 ⊢;refine⟨H1,σD2,_,ok2.after s4,q4,λy H5 dy s5 r5 q5=>?_⟩;have eD5:=s5 _ _ (s4 _ _ (s2 _ _ eD));have ra5:=((ra.same s2).same s4).same s5;refine⟨vs,eD5,by rw[<-ra5.length];(clear hl l2;lia),ds.length-(i+1),by (clear hz hl la l2;lia),rfl,hlt,?_,l2.trans hl,fr2,acc ++ [dy],vs ++ [y],zq,?_,by rw[List.length_append,List.length_singleton];(clear hz hl l2;lia),?_⟩
   ·exact Same.but (((sm.trans s2).trans s4).trans s5) hn But.write
   ·exact(ra5.append (.cons r5 .nil)).mono (y9 eD5 rfl)
   ·simpa using q5
  |false=>
   rw[if_neg Bool.false_ne_true]at q4 ⊢;exact⟨ds.length-(i+1),by lia,rfl,hlt,(sm.trans s2).trans s4,l2.trans hl,fr2,acc,vs,s4 _ _ (s2 _ _ eD),(ra.same s2).same s4,by (clear hz hl l2;lia),by simpa using q4⟩
 ·have e:i=ds.length:=by (clear hz hl;lia)
  subst e;rw[List.drop_length]at q1;refine .inl ⟨it.stop H' sm,Dd,vs,acc,rfl,sm,hn,eD,ra,?_⟩;have:lcD (lcF g tt te (y2 k js σD)) [] (λys=>QD (acc++ys)):=q1;simpa[lcD]using this
def cnG(K:PySem.W.Frag)(is:List Nat)(g:DTG):TG:=λv σ H Q=>∃H₀ σD d QD,DOk K H₀ H σD σ/\Rep K H d v/\g d σD QD/\∀σ' σD',σ'.length=σ.length->DOk K H₀ H σD' σ'->(∀j,j∉is->σ'[j]?=σ[j]?)->QD σD'->Q σ' H
theorem DG.pg{is:List Nat}{g:DTG}(h:DG X tg is g):PG X tg (cnG X.K is g):=λpins s σ H v u Q I r zq87=>by obtain⟨H₀,σD,d,QD,ok,rp,q,k⟩:=zq87;exact thn (h.run pins s σ H H₀ σD v u d QD I ok r rp q) λ_ s' zq1=>by obtain⟨σ',σD',I',ok',f,qd⟩:=zq1;exact⟨σ',H,I',k σ' σD' (by rw[I'.len,I.len]) ok' f qd⟩
variable {elt:Expr}{ifs:List Expr}{scope:Scope}{cl:List (Str×Addr)}{N' capt:List Str}{k:Nat}{js is:List Nat}{ti:DTF}{g:DTG}{tt:DTT}{te:DTE}
theorem zb4(hc:X.calm=true)(L:zc1 X scope cl N' capt k js)
  (hi:DIw X tg iter ti) (hg:∀C fp s2 H2,DG (yd X N' scope cl C fp s2 H2) tg is g) (ht:∀C fp s2 H2,DTs (yd X N' scope cl C fp s2 H2) ifs tt) (he:∀C fp s2 H2,DE (yd X N' scope cl C fp s2 H2) elt te)
  (his:∀j∈is,j<k:=by decide) (hs:∀x,foldedSetIterable iter X.env x=pure x:=by intro _;rfl):DF X (.ListComp elt [⟨tg,iter,ifs,0⟩] scope pos) (dLC k js ti g tt te) :=
 DF.of (zuq hc L hi.pi (λC fp s2 H2=>(hg C fp s2 H2).pg) (λC fp s2 H2=>(ht C fp s2 H2).pts) (λC fp s2 H2=>(he C fp s2 H2).pe) hs) λσ H H₀ σD QD ok q=>⟨H₀,σD,_,ok,q,λJ H1 ds s1 it q1 Dd hn=>by
  have z:=zfu (k:=k) (js:=js) (is:=is) (gL:=cnG X.K is g) (Dd:=Dd) (ok.after s1) it q1.1 (λd v σ' H' Q σ0 ok0 r0 q0=>⟨H1,σ0,d,Q,ok0,r0,q0,λσ2 σD2 l2 ok2 f2 q2=>⟨rfl,l2,f2,σD2,ok2,q2⟩⟩)
   (λv σ' H' Q Q' m zq7=>by obtain⟨a,b,c,d,e1,e2,e3,e4⟩:=zq7;exact⟨a,b,c,d,e1,e2,e3,λσ2 σD2 l o f q=>m _ _ (e4 σ2 σD2 l o f q)⟩) his hn q1.2
  obtain⟨W,w0,turn⟩:=z;refine⟨W,w0,λi m σ' H' w=>?_⟩;rcases turn i m σ' H' w with⟨st,a,vs,xs,e,sm,n,e2,r,qd⟩|h
  ·exact .inl ⟨st,a,vs,xs,e,s1.trans sm,s1.free n,e2,r,qd⟩
  ·exact .inr h⟩
end
inductive Ret where
 |val (d:D)|new (xs:List D)
def Ret.d:Ret->D
 |.val d=>d
 |.new xs=>.list xs
abbrev DSp:=List W->(Ret->Prop)->Prop
def zkq(K:PySem.W.Frag)(H H':Hp):Ret->V->Prop
 |.val d,v=>Rep K H' d v
 |.new xs,v=>∃a vs,v=.ref a/\H a=none/\H' a=some (.lst vs)/\Reps K H' xs vs
def ye(K:PySem.W.Frag)(sp:DSp):Sp:=λvs H Q _=>∃ws QD,RepWs K H ws vs/\sp ws QD/\∀v H' r,Same H H'->zkq K H H' r v->QD r->Q v H'
def zme(sp:DSp)(t:DTP):DTE:=λσ Q=>t σ λws=>sp ws λr=>Q r.d
def zho(sp:DSp)(t:DTP):DTF:=λσ Q=>t σ λws=>sp ws λr=>match r with
 |.new xs=>Q xs
 |.val _=>False
section
variable {X:Cx}{e:Expr}{es:List Expr}{k k':Nat}{x:Str}{ps:List Str}{sp:DSp}{t:DTP}{p pos:Pos}
theorem zfv{pins:List (Addr×Obj)}{σ:St}{H H₀:Hp}{σD:DSt}{s:Shared}{Q:Ret->Prop}(C:je X.prog X.w X.K X.mg X.base k x ps (ye X.K sp))(hr:Room k' X.A)(hg:Gl X x)(ha:DPs X (e::es) t)(hk:k<=k')
  (hdb:(x ==("__debug__" : Str))=false) (he:starEach (e::es) X.env=(false,eval e X.env)::starEach es X.env) (hpl:(backTo pos (starEach es X.env)).any (·.1)=false) (I:Inv X pins σ H s) (ok:DOk X.K H₀ H σD σ) (q:t σD λws=>sp ws Q) :
  wpAny (model X.prog X.w) X.A (eval (.Call (.Name x p) (e::es) [] pos) X.env) (λu s'=>∃v H' r,Inv X pins σ H' s'/\RelV v u/\Same H H'/\zkq X.K H H' r v/\Q r) X.xe s:=by
 refine thn (jx C hr hg ha.pa hk hdb he hpl pins s σ H (λv H'=>∃r,Same H H'/\zkq X.K H H' r v/\Q r) I ?_) λu s' zq26=>by obtain⟨v,H',I',r,z,sm,rp,qd⟩:=zq26;exact⟨v,H',z,I',r,sm,rp,qd⟩
 refine⟨H₀,σD,_,ok,q,λvs H1 ws s1 r1 q1=>⟨ws,Q,by rw[List.append_nil];exact r1,q1,λv H' r s2 rp qd=>⟨r,s1.trans s2,?_,qd⟩⟩⟩
 cases r with
 |val d=>exact rp
 |new xs=>obtain⟨a,vs,e1,n,e2,r⟩:=rp;exact⟨a,vs,e1,s1.free n,e2,r⟩
theorem zn(C:je X.prog X.w X.K X.mg X.base k x ps (ye X.K sp))(hr:Room k' X.A)(hg:Gl X x)(ha:DPs X (e::es) t)(hk:k<=k':=by decide)(hdb:(x ==("__debug__" : Str))=false:=by decide)
  (he:starEach (e::es) X.env=(false,eval e X.env)::starEach es X.env:=by rfl) (hpl:(backTo pos (starEach es X.env)).any (·.1)=false:=by rfl):DE X (.Call (.Name x p) (e::es) [] pos) (zme sp t) :=
 ⟨λpins s σ H H₀ σD Q I ok q=>thn (zfv C hr hg ha hk hdb he hpl I ok q) λu s' zq83=>by
  obtain⟨v,H',r,I',rv,sm,rp,qd⟩:=zq83
  cases r with
  |val d=>exact⟨v,H',d,I',rv,sm,rp,qd⟩
  |new xs=>
   obtain⟨a,vs,rfl,n,e,r⟩:=rp;obtain⟨H'',J,sm',r'⟩:=zb3 I' sm n e r;exact⟨.ref a,H'',.list xs,J,rv,sm',r',qd⟩⟩
theorem zpj(C:je X.prog X.w X.K X.mg X.base k x ps (ye X.K sp))(hr:Room k' X.A)(hg:Gl X x)(ha:DPs X (e::es) t)(hk:k<=k':=by decide)(hdb:(x ==("__debug__" : Str))=false:=by decide)
  (he:starEach (e::es) X.env=(false,eval e X.env)::starEach es X.env:=by rfl) (hpl:(backTo pos (starEach es X.env)).any (·.1)=false:=by rfl):DF X (.Call (.Name x p) (e::es) [] pos) (zho sp t) :=
 ⟨λpins s σ H H₀ σD Q I ok q=>thn (zfv C hr hg ha hk hdb he hpl I ok q) λu s' zq83=>by
  obtain⟨v,H',r,I',rv,sm,rp,qd⟩:=zq83
  cases r with
  |val d=>exact qd.elim
  |new xs=>
   obtain⟨a,vs,rfl,n,e,r⟩:=rp;exact⟨a,H',vs,xs,rv,I',sm,n,e,r,qd⟩⟩
end
structure vr where
 nx:DSt->Prop
 rt:Ret->Prop
 bk:DSt->Prop:=λ_=>False
 ct:DSt->Prop:=λ_=>False
abbrev DTS:=vr->DSt->Prop
def DSP(X:Cx)(pins:List (Addr×Obj))(H₀ H:Hp)(Dn:vr)(f:Flow)(s':Shared):Prop :=
 match f with
 |.next=>∃σ' H' σD',Inv X pins σ' H' s'/\DOk X.K H₀ H' σD' σ'/\Pers H H'/\Dn.nx σD'
 |.brk=>∃σ' H' σD',Inv X pins σ' H' s'/\DOk X.K H₀ H' σD' σ'/\Pers H H'/\Dn.bk σD'
 |.cont=>∃σ' H' σD',Inv X pins σ' H' s'/\DOk X.K H₀ H' σD' σ'/\Pers H H'/\Dn.ct σD'
 |.ret u=>∃v σ' H' r,Inv X pins σ' H' s'/\RelV v u/\Same H₀ H'/\zkq X.K H₀ H' r v/\Dn.rt r
structure DS(X:Cx)(st:Stmt)(t:DTS):Prop where
 run:∀(pins:List (Addr×Obj)) (s:Shared) (σ:St) (H H₀:Hp) (σD:DSt) (Dn:vr),Inv X pins σ H s->DOk X.K H₀ H σD σ->t Dn σD->wpAny (model X.prog X.w) X.A (exec st X.env) (DSP X pins H₀ H Dn) X.xe s
structure DSs(X:Cx)(st:List Stmt)(t:DTS):Prop where
 run:∀(pins:List (Addr×Obj)) (s:Shared) (σ:St) (H H₀:Hp) (σD:DSt) (Dn:vr),Inv X pins σ H s->DOk X.K H₀ H σD σ->t Dn σD->wpAny (model X.prog X.w) X.A (execs st X.env) (DSP X pins H₀ H Dn) X.xe s
theorem DSP.back{X:Cx}{pins:List (Addr×Obj)}{H₀ H H1:Hp}{Dn:vr}{f:Flow}{s':Shared}(p:Pers H H1)(h:DSP X pins H₀ H1 Dn f s'):DSP X pins H₀ H Dn f s':=by
 cases f with
 |next=>obtain⟨a,b,c,e1,e2,e3,e4⟩:=h;exact⟨a,b,c,e1,e2,p.trans e3,e4⟩
 |brk=>obtain⟨a,b,c,e1,e2,e3,e4⟩:=h;exact⟨a,b,c,e1,e2,p.trans e3,e4⟩
 |cont=>obtain⟨a,b,c,e1,e2,e3,e4⟩:=h;exact⟨a,b,c,e1,e2,p.trans e3,e4⟩
 |ret u=>exact h
def zqx(K:PySem.W.Frag)(H₀ H:Hp)(Dn:vr):zg3 where
 nx:=λσ' H'=>∃σD',DOk K H₀ H' σD' σ'/\Pers H H'/\Dn.nx σD'
 bk:=λσ' H'=>∃σD',DOk K H₀ H' σD' σ'/\Pers H H'/\Dn.bk σD'
 ct:=λσ' H'=>∃σD',DOk K H₀ H' σD' σ'/\Pers H H'/\Dn.ct σD'
 rt:=λv H'=>∃r,Same H₀ H'/\zkq K H₀ H' r v/\Dn.rt r
section
variable {X:Cx}{st:Stmt}{sts rest:List Stmt}{t u:DTS}{e:Expr}{te:DTE}{tf:DTF}{pos:Pos}
theorem SP.dsp{pins:List (Addr×Obj)}{H₀ H:Hp}{Dn:vr}{f:Flow}{s':Shared}(h:SP X pins (zqx X.K H₀ H Dn) f s'):DSP X pins H₀ H Dn f s':=by
 cases f with
 |next=>obtain⟨a,b,e1,c,e2,e3,e4⟩:=h;exact⟨a,b,c,e1,e2,e3,e4⟩
 |brk=>obtain⟨a,b,e1,c,e2,e3,e4⟩:=h;exact⟨a,b,c,e1,e2,e3,e4⟩
 |cont=>obtain⟨a,b,e1,c,e2,e3,e4⟩:=h;exact⟨a,b,c,e1,e2,e3,e4⟩
 |ret u=>obtain⟨v,a,b,e1,e2,r,e3,e4,e5⟩:=h;exact⟨v,a,b,r,e1,e2,e3,e4,e5⟩
theorem DS.of{t':TS}(h:PS X st t')(k:∀σ H H₀ σD Dn,DOk X.K H₀ H σD σ->t Dn σD->t' (zqx X.K H₀ H Dn) σ H):DS X st t :=
 ⟨λpins s σ H H₀ σD Dn I ok q=>thn (h pins s σ H _ I (k σ H H₀ σD Dn ok q)) λ_ _ z=>z.dsp⟩
def cnS(K:PySem.W.Frag)(t:DTS):TS:=λE σ H=>∃H₀ σD Dn,DOk K H₀ H σD σ/\t Dn σD/\(∀σ' H' σD',DOk K H₀ H' σD' σ'->Pers H H'->Dn.nx σD'->E.nx σ' H')/\(∀v H' r,Same H₀ H'->zkq K H₀ H' r v->Dn.rt r->E.rt v H') /\
 (∀σ' H' σD',DOk K H₀ H' σD' σ'->Pers H H'->Dn.bk σD'->E.bk σ' H')/\∀σ' H' σD',DOk K H₀ H' σD' σ'->Pers H H'->Dn.ct σD'->E.ct σ' H'
theorem DSs.ps(h:DSs X sts t):PSs X sts (cnS X.K t):=by
 intro pins s σ H E I zz;obtain⟨H₀,σD,Dn,ok,q,k1,k2,k3,k4⟩:=zz;refine thn (h.run pins s σ H H₀ σD Dn I ok q) λf s' z=>?_
 cases f with
 |next=>obtain⟨a,b,c,e1,e2,e3,e4⟩:=z;exact⟨a,b,e1,k1 a b c e2 e3 e4⟩
 |brk=>obtain⟨a,b,c,e1,e2,e3,e4⟩:=z;exact⟨a,b,e1,k3 a b c e2 e3 e4⟩
 |cont=>obtain⟨a,b,c,e1,e2,e3,e4⟩:=z;exact⟨a,b,e1,k4 a b c e2 e3 e4⟩
 |ret u=>obtain⟨v,a,b,r,e1,e2,e3,e4,e5⟩:=z;exact⟨v,a,b,e1,e2,k2 v b r e3 e4 e5⟩
def zmf:DTS:=λDn σ=>Dn.nx σ
def zmg(t u:DTS):DTS:=λDn σ=>t { Dn with nx:=u Dn } σ
theorem ya:DSs X [] zmf:=⟨λ_ _ σ H _ σD _ I ok h=>wpAny_execs_nil ⟨σ,H,σD,I,ok,Pers.refl _,h⟩⟩
theorem zd(h1:DS X st t)(h2:DSs X rest u):DSs X (st::rest) (zmg t u):=⟨λpins s σ H H₀ σD Dn I ok q=>by
 refine wpAny_execs_cons (thn (h1.run pins s σ H H₀ σD { Dn with nx:=u Dn } I ok q) λf s1 z=>?_)
 cases f with
 |next=>
  obtain⟨σ',H',σD',I',ok',p,q'⟩:=z;exact thn (h2.run pins s1 σ' H' H₀ σD' Dn I' ok' q') λ_ _ y=>y.back p
 |ret v=>exact z
 |brk=>exact z
 |cont=>exact z⟩
theorem zh(h1:DS X st t):DSs X [st] t:=⟨λpins s σ H H₀ σD Dn I ok q=>by
 refine wpAny_execs_cons (thn (h1.run pins s σ H H₀ σD Dn I ok q) λf s1 z=>?_)
 cases f with
 |next=>exact wpAny_execs_nil z
 |ret v=>exact z
 |brk=>exact z
 |cont=>exact z⟩
def zhp:DTS:=λDn σ=>Dn.bk σ
theorem zmh:DS X (.Break pos) zhp:=⟨λ_ _ σ H _ σD _ I ok h=>wpAny_Break ⟨σ,H,σD,I,ok,Pers.refl _,h⟩⟩
def zhq:DTS:=λ_ _=>False
theorem zfw:DS X st zhq:=⟨λ_ _ _ _ _ _ _ _ _ h=>h.elim⟩
def zst(te:DTE):DTS:=λDn σ=>te σ λd=>Dn.rt (.val d)
def zmi(tf:DTF):DTS:=λDn σ=>tf σ λxs=>Dn.rt (.new xs)
def zi7(i:Nat):DTS:=λDn σ=>match σ[i]? with
 |some (some (.own (.lst xs)))=>Dn.rt (.new xs)
 |_=>False
theorem zu(he:DE X e te):DS X (.Return (some e) pos) (zst te) :=
 DS.of (zal he.pe) λσ H H₀ σD Dn ok q=>⟨H₀,σD,_,ok,q,λv H1 d s1 r1 q1=>⟨.val d,ok.same.trans s1,r1,q1⟩⟩
theorem zpk(he:DF X e tf):DS X (.Return (some e) pos) (zmi tf) :=
 DS.of (zal he.pe) λσ H H₀ σD Dn ok q=>⟨H₀,σD,_,ok,q,λa H1 vs xs s1 n e r1 q1=>⟨.new xs,ok.same.trans s1,⟨a,vs,rfl,ok.same.free n,e,r1⟩,q1⟩⟩
theorem zek(i:Nat){x:Str}{pos':Pos}(hN:X.N[i]?=some x:=by rfl)(hv:Vis X.env.scope x:=by first|exact Or.inl rfl|exact Or.inr (Or.inl rfl)|exact Or.inr (Or.inr rfl))(hd:(x ==("__debug__" : Str))=false:=by decide)
  (hcd:(x ==("__classdict__" : Str))=false:=by decide):DS X (.Return (some (.Name x pos')) pos) (zi7 i) :=
 DS.of (zal (y4 (i:=i) hN hv hd hcd)) λσ H H₀ σD Dn ok q=>by
  unfold zi7 at q
  split at q
  ·next xs e=>
   obtain⟨a,vs,e1,e2,r,n⟩:=ok.ownL e;exact⟨.ref a,e1,.new xs,ok.same,⟨a,vs,rfl,n,e2,r⟩,q⟩
  ·exact q.elim
def zpl(i:Nat)(te:DTE):DTS:=λDn σ=>te σ λd=>Dn.nx (σ.set i (some (.val d)))
def zmj(i:Nat)(tf:DTF):DTS:=λDn σ=>tf σ λxs=>Dn.nx (σ.set i (some (.own (.lst xs))))
def zmk(i:Nat)(tf:DTF):DTS:=λDn σ=>tf σ λxs=>(∃a b c:Int,xs = [.int a,.int b,.int c])/\Dn.nx (σ.set i (some .pen))
theorem yc{i:Nat}{x:Str}{pos':Pos}(hN:X.N.Nodup)(hi:X.N[i]?=some x)(hx:Loc X.env.scope x)(he:DE X e te)(hs:swapsWith e (some (.Name x pos')) pos.line X.env=pure false:=by rfl)(hf:X.fn x=true\/X.env.scope.names.lookup x=some .local:=by first|exact .inl rfl|exact .inr rfl|assumption):
  DS X (.Assign [.Name x pos'] e pos) (zpl i te) :=
 DS.of (zam hN hi hx he.pe hs hf) λσ H H₀ σD Dn ok q=>⟨H₀,σD,_,ok,q,λv H1 d s1 r1 q1=>⟨_,(ok.after s1).setV r1 i,s1.pers,q1⟩⟩
theorem zbq{i:Nat}{x:Str}{pos':Pos}(hN:X.N.Nodup)(hi:X.N[i]?=some x)(hx:Loc X.env.scope x)(he:DF X e tf)(hs:swapsWith e (some (.Name x pos')) pos.line X.env=pure false:=by rfl)(hf:X.fn x=true\/X.env.scope.names.lookup x=some .local:=by first|exact .inl rfl|exact .inr rfl|assumption):
  DS X (.Assign [.Name x pos'] e pos) (zmj i tf) :=
 DS.of (zam hN hi hx he.pe hs hf) λσ H H₀ σD Dn ok q=>⟨H₀,σD,_,ok,q,λa H1 vs xs s1 n e r1 q1=>⟨_,ok.setO s1 n e r1 i,s1.pers,q1⟩⟩
theorem zpm{i:Nat}{x:Str}{pos':Pos}(hN:X.N.Nodup)(hi:X.N[i]?=some x)(hx:Loc X.env.scope x)(he:DF X e tf)(hs:swapsWith e (some (.Name x pos')) pos.line X.env=pure false:=by rfl)(hf:X.fn x=true\/X.env.scope.names.lookup x=some .local:=by first|exact .inl rfl|exact .inr rfl|assumption):
  DS X (.Assign [.Name x pos'] e pos) (zmk i tf):=⟨λpins s σ H H₀ σD Dn I ok q=>by
 refine thn (zam hN hi hx he.pe hs hf pins s σ H { nx:=λσ' H'=>∃a,Same H H'/\H a=none/\σ'=σ.set i (some (.ref a))/\(∃x y z:Int,H' a=some (.lst [.int x,.int y,.int z]))/\Dn.nx (σD.set i (some .pen)),rt:=λ_ _=>False } I ⟨H₀,σD,_,ok,q,λa H1 vs xs s1 n e r1 q1=>?_⟩) λf s' z=>?_
 ·obtain⟨⟨x,y,z,rfl⟩,q1⟩:=q1
  cases r1 with
  |cons r1 t=>cases t with
   |cons r2 t=>cases t with
    |cons r3 t=>
     cases t
     cases r1
     cases r2
     cases r3;exact⟨a,s1,n,rfl,⟨x,y,z,e⟩,q1⟩
 ·cases f with
  |next=>
   obtain⟨σ',H',I',a,sm,n,rfl,⟨x,y,z,e⟩,q⟩:=z;have sm2:Same H (upd H' a (zap a)):=λb u hb=>by rw[zv (yy hb n)];exact sm b u hb
   exact⟨_,_,_,I'.toPen e,(ok.after sm2).put (.pen zq) i,sm2.pers,q⟩
  |ret u=>obtain⟨_,_,_,_,_,z⟩:=z;exact z.elim
  |brk=>obtain⟨_,_,_,z⟩:=z;exact z.elim
  |cont=>obtain⟨_,_,_,z⟩:=z;exact z.elim⟩
def zsu(te:DTE)(g:DTG):DTS:=λDn σ=>te σ λd=>g d σ Dn.nx
theorem yu{tg:Expr}{is:List Nat}{g:DTG}(he:DE X e te)(hg:DG X tg is g)(hs:swapsWithSole [tg] e pos.line X.env=pure false:=by rfl)(hw:swappedStores [tg] e X.env=pure none:=by rfl)
  (h1:(assignEach [tg] X.env).map (·.2) = [assign tg X.env]:=by rfl):DS X (.Assign [tg] e pos) (zsu te g) :=
 DS.of (zd7 he.pe hg.pg hs hw h1) λσ H H₀ σD Dn ok q=>⟨H₀,σD,_,ok,q,λv H1 d s1 r1 q1=>⟨H₀,σD,d,_,ok.after s1,r1,q1,λσ' σD' _ ok' _ q'=>⟨σD',ok',s1.pers,q'⟩⟩⟩
def zsv(i j:Nat)(t:DTF):DTS:=λDn σ=>t σ λds=>match ds with
 |[d,e]=>Dn.nx ((σ.set i (some (.val d))).set j (some (.val e)))
 |_=>False
theorem zsw{i j:Nat}{x y:Str}{a b:Expr}{px py pt:Pos}{kt k2 pt2}(hc:X.calm=true)(hN:X.N.Nodup)(hi:X.N[i]?=some x)(hj:X.N[j]?=some y)(hij:i≠j)
  (hx:X.env.scope.names.lookup x=some .local) (hy:X.env.scope.names.lookup y=some .local) (ha:DA X [a,b] tf)
  (hw:swappedStores [.Tuple [.Name x px,.Name y py] kt pt] (.Tuple [a,b] k2 pt2) X.env=pure (some [x,y]))
  (hs:swapsWithSole [.Tuple [.Name x px,.Name y py] kt pt] (.Tuple [a,b] k2 pt2) pos.line X.env=pure false:=by rfl) :
  DS X (.Assign [.Tuple [.Name x px,.Name y py] kt pt] (.Tuple [a,b] k2 pt2) pos) (zsv i j tf) :=
 DS.of (zrj hc hN hi hj hij hx hy ha.pa hw hs) λσ H H₀ σD Dn ok q=>⟨H₀,σD,_,ok,q,λvs H1 ds s1 r1 q1=>by
  match ds,r1,q1 with
  |[d,e],r1,q1=>
   cases r1 with
   |cons p1 t1=>cases t1 with
    |cons p2 t2=>
     cases t2;exact⟨_,_,rfl,_,((ok.after s1).setV p1 i).setV p2 j,s1.pers,q1⟩⟩
def dIf(c:DTT)(t u:DTS):DTS:=λDn σ=>c σ λb=>if b=true then t Dn σ else u Dn σ
theorem yp{c:Expr}{a b:List Stmt}{tc:DTT}(hc:DT X c tc)(ha:DSs X a t)(hb:DSs X b u):DS X (.If c a b pos) (dIf tc t u):=⟨λpins s σ H H₀ σD Dn I ok q=>by
 refine wpAny_If (thn (hc.run pins s σ H H₀ σD _ I ok q) λd s1 zr3=>?_);obtain⟨H1,I1,sm,q1⟩:=zr3
 cases d with
 |true=>exact thn (ha.run pins s1 σ H1 H₀ σD Dn I1 (ok.after sm) (by simpa using q1)) λ_ _ z=>z.back sm.pers
 |false=>exact thn (hb.run pins s1 σ H1 H₀ σD Dn I1 (ok.after sm) (by simpa using q1)) λ_ _ z=>z.back sm.pers⟩
def zml(c:DTT)(tb:DTS):DTS:=λDn σ=>∃Wv:Nat->DSt->Prop,(∃m,Wv m σ)/\∀m σ,Wv m σ->c σ λb=>if b=true then tb { Dn with nx:=λσ'=>∃m',m' < m/\Wv m' σ',ct:=λσ'=>∃m',m' < m/\Wv m' σ',bk:=Dn.nx } σ else Dn.nx σ
theorem zmm{c:Expr}{body:List Stmt}{tc:DTT}{tb:DTS}(hp:PassesOwn (model X.prog X.w) X.A X.env X.xe)(hc:DT X c tc)(hb:DSs X body tb):DS X (.While c body [] pos) (zml tc tb) :=
 DS.of (zlm hp hc.pt hb.ps) λσ H H₀ σD Dn ok q=>by
  obtain⟨Wv,⟨m0,w0⟩,turn⟩:=q;refine⟨λm σ' H'=>∃σD',DOk X.K H₀ H' σD' σ'/\Pers H H'/\Wv m σD',⟨m0,σD,ok,Pers.refl _,w0⟩,?_⟩;rintro m σ' H' ⟨σD',ok',p',w'⟩;refine⟨H₀,σD',_,ok',turn m σD' w',λb H1 s1 q1=>?_⟩
  cases b with
  |true=>
   rw[if_pos rfl]at q1 ⊢;refine⟨λσ2 H2=>∃σD2,DOk X.K H₀ H2 σD2 σ2/\Pers H H2/\∃m',m' < m/\Wv m' σD2,λσ2 H2 zq95=>by obtain⟨σD2,ok2,p2,m',hm,w2⟩:=zq95;exact⟨m',hm,σD2,ok2,p2,w2⟩,H₀,σD',_,ok'.after s1,q1,λσ2 H2 σD2 ok2 p2 n2=>⟨σD2,ok2,(p'.trans s1.pers).trans p2,n2⟩,λv H2 r sm rp qr=>⟨r,sm,rp,qr⟩,λσ2 H2 σD2 ok2 p2 n2=>⟨σD2,ok2,(p'.trans s1.pers).trans p2,n2⟩,λσ2 H2 σD2 ok2 p2 n2=>⟨σD2,ok2,(p'.trans s1.pers).trans p2,n2⟩⟩
  |false=>
   rw[if_neg Bool.false_ne_true]at q1 ⊢;exact⟨σD',ok'.after s1,p'.trans s1.pers,q1⟩
theorem zkr{c:DTT}{tb:DTS}{Dn:vr}{σ:DSt}(Wv:Nat->DSt->Prop)(m0:Nat)(h0:Wv m0 σ)
  (hs:∀m σ (N:DSt->Prop),Wv m σ->(∀m' σ',m' < m->Wv m' σ'->N σ')->c σ λb=>if b=true then tb { Dn with nx:=N,ct:=N,bk:=Dn.nx } σ else Dn.nx σ):zml c tb Dn σ :=
 ⟨Wv,⟨m0,h0⟩,λm σ w=>hs m σ _ w λm' σ' h w'=>⟨m',h,w'⟩⟩
def zel(g:DTG)(tb:DTS)(Dn:vr):List D->DSt->Prop
 |[],σ=>Dn.nx σ
 |d::ds,σ=>g d σ λσ2=>tb { Dn with nx:=zel g tb Dn ds,ct:=zel g tb Dn ds,bk:=Dn.nx } σ2
theorem xa{g:DTG}{tb:DTS}{Dn:vr}(Iv:List D->DSt->Prop)(hs:∀d ds σ (N:DSt->Prop),Iv (d::ds) σ->(∀σ',Iv ds σ'->N σ')->g d σ λσ2=>tb { Dn with nx:=N,ct:=N,bk:=Dn.nx } σ2)(hd:∀σ,Iv [] σ->Dn.nx σ):∀{ds:List D}{σ:DSt},Iv ds σ->zel g tb Dn ds σ
 |[],σ,h=>hd σ h
 |d::ds,σ,h=>hs d ds σ _ h λσ' h'=>xa Iv hs hd h'
def zsx(ti:DTF)(g:DTG)(tb:DTS):DTS:=λDn σ=>ti σ λds=>zel g tb Dn ds σ
theorem wn{tg iter:Expr}{body:List Stmt}{ti:DTF}{is:List Nat}{g:DTG}{tb:DTS}(hp:PassesOwn (model X.prog X.w) X.A X.env X.xe)(hc:X.calm=true)(hi:DI X tg iter ti)(hg:DG X tg is g)(hb:DSs X body tb)
  (hs:∀x,foldedSetIterable iter X.env x=pure x:=by intro _;rfl):DS X (.For tg iter body [] pos) (zsx ti g tb) :=
 DS.of (zrl hp hc hi.pi hg.pg hb.ps hs) λσ H H₀ σD Dn ok q=>⟨H₀,σD,_,ok,q,λJ H1 ds s1 it q1=>by
  have sub:∀{i:Nat}{d:D}{σ':DSt},ds[i]?=some d->zel g tb Dn (ds.drop i) σ'=g d σ' (λσ2=>tb { Dn with nx:=zel g tb Dn (ds.drop (i+1)),ct:=zel g tb Dn (ds.drop (i+1)),bk:=Dn.nx } σ2):=λ{i d σ'} e=>by
   obtain⟨hi,e'⟩:=List.getElem?_eq_some_iff.mp e;rw[List.drop_eq_getElem_cons hi,e'];rfl
  refine⟨λi m σ' H'=>m=ds.length-i/\i<=ds.length/\Pers H1 H'/\∃σD',DOk X.K H₀ H' σD' σ'/\zel g tb Dn (ds.drop i) σD',⟨ds.length,rfl,Nat.zero_le _,Pers.refl _,σD,ok.after s1,q1⟩,?_⟩;rintro i m σ' H' ⟨rfl,hi,pr,σD',ok',q'⟩
  by_cases hlt:i<ds.length
  ·have e:ds[i]?=some ds[i]:=by simp[hlt]
   obtain⟨go,yl⟩:=it.go H' i ds[i] pr e;rw[sub e]at q';refine .inr ⟨go,λσ2 H2=>Pers H1 H2/\∃σD2,DOk X.K H₀ H2 σD2 σ2/\zel g tb Dn (ds.drop (i+1)) σD2,λσ2 H2 zq18=>by obtain⟨p2,σD2,ok2,q2⟩:=zq18;exact⟨ds.length-(i+1),by omega,rfl,hlt,p2,σD2,ok2,q2⟩,λx H2 y=>?_⟩;obtain⟨s2,r2⟩:=yl x H2 y;have p2:=pr.trans s2.pers;refine⟨H₀,σD',ds[i],_,ok'.after s2,r2,q',λσ3 σD3 _ ok3 _ q3=>?_⟩;exact⟨H₀,σD3,_,ok3,q3,λσ4 H4 σD4 ok4 p4 q4=>⟨p2.trans p4,σD4,ok4,q4⟩,λv H4 r sm rp qr=>⟨r,sm,rp,qr⟩,λσ4 H4 σD4 ok4 p4 q4=>⟨σD4,ok4,(s1.pers.trans p2).trans p4,q4⟩,λσ4 H4 σD4 ok4 p4 q4=>⟨p2.trans p4,σD4,ok4,q4⟩⟩
  ·have e:i=ds.length:=by lia
   subst e;rw[List.drop_length]at q';exact .inl ⟨it.stop H' pr,σD',ok',s1.pers.trans pr,q'⟩⟩
variable {ta tb:DTE}
def zpn(i:Nat)(te:DTE):DTS:=λDn σ=>match σ[i]? with
 |some (some (.own (.lst xs)))=>te σ λd=>xs.length<sizeLine/\Dn.nx (clr (σ.set i (some (.own (.lst (xs ++ [d]))))))
 |_=>False
theorem ww(i:Nat){x:Str}{p1 apos cpos:Pos}(he:DE X e te)(hN:X.N[i]?=some x:=by rfl)(hv:Vis X.env.scope x:=by first|exact Or.inl rfl|exact Or.inr (Or.inl rfl)|exact Or.inr (Or.inr rfl))(hd:(x ==("__debug__" : Str))=false:=by decide)
  (hcd:(x ==("__classdict__" : Str))=false:=by decide)
  (hbase:attributeBase (.Name x p1) "append" X.env (eval (.Name x p1) X.env)=eval (.Name x p1) X.env:=by rfl)
  (hfew:((backTo cpos (starEach (e :: []) X.env)).all (λx=>!x.1) && (backToKw cpos (keywordEach [] X.env)).all (λx=>x.1.isSome)
   && decide ((e :: []).length+([]:List Keyword).length+(if ([]:List Keyword).isEmpty then 0 else 1)<30))=true:=by rfl)
  (hline:(apos.endLine == cpos.line)=true:=by rfl) (hst:starEach (e :: []) X.env=(false,eval e X.env)::starEach [] X.env:=by rfl) (hplain:(backTo cpos (starEach [] X.env)).any (·.1)=false:=by rfl)
  (hs:swapsWith (.Call (.Attribute (.Name x p1) "append" apos) [e] [] cpos) none pos.line X.env=pure false:=by rfl):DS X (.Expr (.Call (.Attribute (.Name x p1) "append" apos) [e] [] cpos) pos) (zpn i te) :=
 DS.of (zd6 (zlu PySem.F.plainAttrs_list PySem.F.slot_list_append PySem.F.type_list_append qy (y4 (i:=i) hN hv hd hcd) (yw he.pe x3 hst) hbase hfew hline hst hplain) hs) λσ H H₀ σD Dn ok q=>by
  unfold zpn at q
  split at q
  ·next xs eo=>
   obtain⟨a,vs,e1,e2,r,n⟩:=ok.ownL eo;refine⟨.ref a,e1,.inl ⟨rfl,vs,SqL.of e2⟩,H₀,σD,_,ok,q,λv H1 d s1 r1 q1=>?_⟩;refine⟨a,vs,v,rfl,rfl,s1 _ _ e2,by rw[<-r.length];exact q1.1,_,(ok.after s1).write eo e1 (s1 _ _ e2) ((r.same s1).append (.cons r1 .nil)),s1.pers.trans (y9 (s1 _ _ e2) rfl),q1.2⟩
  ·exact q.elim
end
def v7(N:List Str)(ws:List W):DSt:=ws.map some++List.replicate (N.length-ws.length) none
section
variable {P:Program}{w:World}{K:PySem.W.Frag}{mg:Str->Option Value}{base:Heap}
theorem DOk.begin{H:Hp}{ws:List W}{vs:List V}(r:RepWs K H ws vs)(N:List Str):DOk K H H (v7 N ws) (vo N vs):=by
 refine⟨Same.refl _,[],?_,List.nodup_nil,λa ha=>by cases ha⟩;unfold v7 vo;rw[<-r.length];generalize N.length-ws.length=n;have rep:∀n:Nat,Slots K H H (List.replicate n none) (List.replicate n none) []:=λn=>by
  induction n with
  |zero=>exact .nil
  |succ n ih=>exact .none ih
 induction r with
 |nil=>exact rep n
 |@cons w' v ws vs r t ih=>
  cases w' with
  |val d=>exact .val r ih
  |vw xs=>exact .vw r ih
  |vd xs=>exact .vd r ih
  |exc xs=>exact .exc r ih
  |scr ns=>obtain⟨a,rfl,r⟩:=r;exact .scr r ih
  |pen=>obtain⟨a,rfl,r⟩:=r;exact .pen r ih
  |tmp d=>exact r.elim
  |own o=>exact r.elim
theorem Fun.dok{x qual:Str}{st:Stmt}{f:Addr}{fd:FuncData}{N ps:List Str}{k:Nat}{sp:DSp}(F:Fun K x qual st f fd)(S:z4 N ps (zl st))(len:∀ws Q,sp ws Q->ws.length=ps.length)
  (hbody:∀(cdv:Value) (A:Around) (outer:List Env) (s:Shared) (H:Hp) (ws:List W) (Q:Ret->Prop) (E:XK),Room k (A.deeper (envOfC qual (zl st) s.heap.objs.size f cdv))->sp ws Q ->
   ∃t,DSs (zfh CX0 P w K mg base N qual (zl st) f cdv A outer s H E).nox (xv st) t/\t { nx:=λ_=>Q (.val .none),rt:=Q } (v7 N ws)):FnOk P w K mg base CX0 (k+1) f fd ps (ye K sp):=by
 refine F.ok S (λvs H Q E h=>?_) λcdv A outer s H vs Q E hr h=>?_
 ·obtain⟨ws,QD,r,q,_⟩:=h;rw[<-r.length];exact len ws QD q
 ·obtain⟨ws,QD,r,q,kk⟩:=h;obtain⟨t,ht,hq⟩:=hbody cdv A outer s H ws QD E hr q;refine⟨_,ht.ps,H,_,_,DOk.begin r N,hq,λσ' H' σD' ok' p' q'=>kk .non H' (.val .none) ok'.same .non q',λv H' r' sm rp qr=>kk v H' r' sm rp qr,λ_ _ _ _ _ z=>z.elim,λ_ _ _ _ _ z=>z.elim⟩
end
def zmn:Sp:=λvs H Q _=>∃(p:Addr) (m:Int),vs = [.ref p,.int m]/\0<m/\m<10000000000000000000000000000000000000000000000000000000000000/\Pen H p/\∀(v:Int) H',0<=v->v<m->Pen H' p->But p H H'->Q (.int v) H'
def xo:DSp:=λws Q=>∃m:Int,ws = [.pen,.val (.int m)]/\0<m/\m<10000000000000000000000000000000000000000000000000000000000000/\∀v:Int,0<=v->v<m->Q (.val (.int v))
theorem zsy{P:Program}{w:World}{K:PySem.W.Frag}{mg:Str->Option Value}{base:Heap}{k:Nat}{f:Addr}{fd:FuncData}{ps:List Str}(F:FnOk P w K mg base CX0 k f fd ps zmn):FnOk P w K mg base CX0 k f fd ps (ye K xo):=by
 refine⟨λvs H Q E h=>?_,λA outer s H args us vs Q E hr e0 hb hv hs=>?_⟩
 ·obtain⟨ws,QD,rw',⟨m,rfl,hm,hM,q⟩,kk⟩:=h
  cases rw' with
  |cons r1 t=>cases t with
   |cons r2 t=>
    cases t;obtain⟨p,rfl,hp⟩:=r1;have r2:Rep K H (.int m) _:=r2
    cases r2;exact F.len [.ref p,.int m] (upd H p (.lst [.int 0,.int 0,.int 0])) (λ_ _=>True) E ⟨p,m,rfl,hm,hM,⟨0,0,0,zq⟩,λ_ _ _ _ _ _=>trivial⟩
 ·obtain⟨ws,QD,rw',⟨m,rfl,hm,hM,q⟩,kk⟩:=hs
  cases rw' with
  |cons r1 t=>cases t with
   |cons r2 t=>
    cases t;obtain⟨p,rfl,hp⟩:=r1;have r2:Rep K H (.int m) _:=r2
    cases r2;obtain⟨⟨x,y,z,tx,ty,tz,n,e⟩,_,_⟩:=e0.hok p _ hp;have mu:Mut (H p):=by rw[hp];exact trivial
    have hok1:HOk P w (upd H p (.lst [.int x,.int y,.int z])) s.heap:=e0.hok.write (h':=s.heap) mu (.inl rfl) (λb u _ q=>q) ⟨_,e⟩ ⟨by show 3<=sizeLine;decide,[_,_,_],n,.cons ⟨_,rfl⟩ (.cons ⟨_,rfl⟩ (.cons ⟨_,rfl⟩ .nil)),e⟩;have nn:∀b,H b=none->b≠p:=λb h z=>by rw[z,hp]at h;cases h
    have e1:zls P w K mg base A outer s (upd H p (.lst [.int x,.int y,.int z])):=⟨e0.frames,e0.mod,λb o h=>⟨(e0.bs b o h).1,by rw[zv (nn b (e0.bs b o h).2)];exact(e0.bs b o h).2⟩,e0.bsz,e0.funs,λb hb=>by rw[zv (nn b (e0.frf b hb))];exact e0.frf b hb,hok1,e0.bare⟩
    refine codeAny_mono (F.run A outer s _ args us [.ref p,.int m] (λv H'=>∃i,v=.int i/\0<=i/\i<m/\Pen H' p/\But p (upd H p (.lst [.int x,.int y,.int z])) H') E hr e1 hb hv ⟨p,m,rfl,hm,hM,⟨x,y,z,zq⟩,λv H' h1 h2 h3 h4=>⟨v,rfl,h1,h2,h3,h4⟩⟩) λr s' z=>?_
    cases r with
    |error e=>exact z
    |ok fl=>
     cases fl with
     |ret u=>
      obtain⟨v,H',os,bare,un,hok',rv,i,rfl,h1,h2,⟨a',b',c',hp'⟩,bt⟩:=z;obtain⟨zz,its,n',r',e'⟩:=hok' p _ hp';have pk:∃(x y z:Int) (tx ty tz:Tok),its = [.int x tx,.int y ty,.int z tz]:=by
       cases r' with
       |cons r1 r=>cases r with
        |cons r2 r=>cases r with
         |cons r3 r=>
          cases r;obtain⟨t1,rfl⟩:=r1;obtain⟨t2,rfl⟩:=r2;obtain⟨t3,rfl⟩:=r3;exact⟨_,_,_,_,_,_,rfl⟩
      obtain⟨x',y',z',tx',ty',tz',rfl⟩:=pk;have np:∀{b:Addr}{u:HO},H b=some u->u≠zap p->b≠p:=λ{b u} h n z=>by rw[z,hp]at h;cases h;exact n rfl
      have hpen:∀{b:Addr},b≠p->upd H' p (zap p) b=H' b:=λh=>zv h;refine⟨.int i,upd H' p (zap p),os,bare,⟨λb o h n'=>un.keep b o h (by rw[zv (nn b n')];exact n'),λb o h n'=>un.slot b o h (by rw[zv (nn b n')];exact n'),λb o h n' hx=>?_,un.there,λb xs h=>?_,λb o u h=>?_,λb ps h=>?_⟩,?_,rv,kk (.int i) _ (.val (.int i)) (λb o h=>?_) (show Rep K _ (.int i) (.int i) from .int) (q i h1 h2)⟩
      ·rw[hpen (nn b n')];exact un.free b o h (by rw[zv (nn b n')];exact n') hx
      ·have nb:=np h (by unfold zap;intro z;cases z);rw[hpen nb];exact un.tups b xs (by rw[zv nb];exact h)
      ·have nb:=np h (by unfold zap;intro z;cases z);rw[hpen nb];exact un.frzs b o u (by rw[zv nb];exact h)
      ·have nb:=np h (by unfold zap;intro z;cases z);obtain⟨more,e2⟩:=un.tbls b ps (by rw[zv nb];exact h);exact⟨more,by rw[hpen nb];exact e2⟩
      ·exact hok'.write (h':=s'.heap) (by rw[hp'];exact trivial) (.inl rfl) (λb u _ q=>q) ⟨_,e'⟩ (zi3 e')
      ·by_cases hb:b=p
       ·subst hb;rw[hp]at h
        cases h;exact zq
       ·rw[zv hb];exact bt b o hb (by rw[zv hb];exact h)
     |next=>exact z
     |brk=>exact z
     |cont=>exact z
section
variable {prog:Program}{w:World}{A:Around}{E:Value->Shared->Prop}{s:Shared}
theorem zdm{it t:Addr}{items:Array Value}(hne:t≠it):∀(n i:Nat) (s:Shared) (Q:List Value->Shared->Prop),s.heap.IsListIter it t i->s.heap.IsList t items->i+n<=items.size ->
  (∀h',h'.IsListIter it t (i+n)->Heap.SameBut it s.heap h'->Q ((items.toList.drop i).take n) { s with heap:=h' })->wpAny (model prog w) A (draw (.ref it) n) Q E s
 |0,i,s,Q,hit,_,_,hQ=>by
  show wpAny _ _ (pure []) Q E s;exact wpAny_pure (by simpa using hQ s.heap hit (Heap.SameBut.refl ..))
 |n+1,i,s,Q,hit,ht,hle,hQ=>by
  have hlt:i<items.size:=by lia
  show wpAny _ _ (pyNext (.ref it) >>= _) Q E s;refine wpAny_bind (wpAny_pyNext_list_item hit ht (x:=items[i]) (by simp[hlt]) λh₁ hit₁ hs₁=>?_);have ht1:h₁.IsList t items:=by obtain⟨o,e,r⟩:=ht;exact⟨o,(hs₁.2 t hne).trans e,r⟩
  refine wpAny_bind (wpAny_holding (zdm hne n (i+1) _ _ hit₁ ht1 (by lia) λh₂ hit₂ hs₂=>wpAny_pure ?_));have hd:items.toList.drop i=items[i]::items.toList.drop (i+1):=by simp[List.drop_eq_getElem_cons,hlt]
  have:=hQ h₂ (by rw[show i+(n+1)=i+1+n by lia];exact hit₂) (hs₁.trans hs₂);rw[hd,List.take_succ_cons]at this;exact this
theorem zaq{t:Addr}{items:Array Value}{Q:List Value->Shared->Prop}(hh:A.handled=none)(ht:s.heap.IsList t items)
  (hQ:∀h',Heap.ExtBut s.heap.objs.size s.heap h'->Q items.toList { s with heap:=h' }):wpAny (model prog w) A (unpackItems (.ref t) items.size none) Q E s:=by
 have hlt:t≠s.heap.objs.size:=by obtain⟨o,ho,_⟩:=ht;exact Nat.ne_of_lt (Heap.lt_size ho)
 have push:∀o:Obj,(s.heap.push o).IsList t items:=λo=>by obtain⟨o',e,r⟩:=ht;exact⟨o',Heap.get?_push_of_some _ e,r⟩
 unfold unpackItems;refine wpAny_bind ?_
 ·unfold notIterableAtAll;refine wpAny_bind (wpAny_specialOf ht.typeIs slot_list_iter.lookup ?_);refine wpAny_pure ?_;simp only[Bool.false_eq_true,if_false];refine wpAny_bind (wpAny_holding (wpAny_pyIter_list ht ?_));refine wpAny_bind (wpAny_holding (zdm hlt items.size 0 _ _ ⟨_,Heap.get?_push_size _ rfl,rfl,rfl⟩ (push _) (by lia) λh₁ hit₁ hs₁=>?_))
  have hall:List.take items.size (List.drop 0 items.toList)=items.toList:=by
   rw[List.drop_zero];exact List.take_of_length_le (by simp)
  rw[hall];rw[if_neg (by simp)];have ht₁:h₁.IsList t items:=by obtain⟨o',e,r⟩:=push { cls:=.type "list_iterator",data:=.fields #[.ref t,.int 0 0] };exact⟨o',(hs₁.2 t hlt).trans e,r⟩
  refine wpAny_bind (wpAny_holding (wpAny_pyNext_list_end hh hit₁ ht₁ (by simp) λh₂ he₂=>?_));simp only[Option.isSome_none,Bool.false_eq_true,if_false];refine wpAny_pure (hQ h₂ λb o hb e=>he₂ b o hb (hs₁.extBut b o hb (Heap.get?_push_of_some _ e)))
theorem j6{env:Env}{elts:List Expr}{x1}{pos:Pos}{t:Addr}{items:Array Value}{Q:Unit->Shared->Prop}(hh:A.handled=none)(ht:s.heap.IsList t items)
  (hn:(assignEach elts env).length=items.size) (hstar:(assignEach elts env).findIdx? (·.1)=none)
  (h:∀h',Heap.ExtBut s.heap.objs.size s.heap h'->wpAny (model prog w) A (assignInOrder ((assignEach elts env).map (·.2)) items.toList) Q E { s with heap:=h' }) :
  wpAny (model prog w) A (assign (.Tuple elts x1 pos) env (.ref t)) Q E s:=by
 rw[assign_Tuple];refine wpAny_bind (wpAny_standAt ?_);unfold unpack;rw[hn,hstar];exact wpAny_bind (wpAny_holding (zaq hh ht h))
end
section
variable {X:Cx}{tg iter e:Expr}{es:List Expr}{te:DTE}{tf:DTF}{p pos:Pos}
def zmo(n:Nat)(gs:zej):DTG:=λd σ Q=>match d with
 |.tuple xs=>xs.length=n/\gs xs σ Q
 |.list xs=>xs.length=n/\gs xs σ Q
 |_=>False
theorem yq{k:Nat}{is:List Nat}{gs:zej}{n:Nat}(hc:X.calm=true)(h:DGs X es is gs)(hn:(assignEach es X.env).length=n:=by rfl)(hst:(assignEach es X.env).findIdx? (·.1)=none:=by rfl):DG X (.Tuple es k pos) is (zmo n gs):=⟨λpins s σ H H₀ σD v u d Q I ok r rp q=>by
 cases d with
 |tuple xs=>exact(zss (k:=k) (pos:=pos) hc h hn hst).run pins s σ H H₀ σD v u _ Q I ok r rp q
 |list xs=>
  obtain⟨hl,q⟩:=q
  cases rp with
  |lst hq rr=>
   cases r;obtain⟨its,rv,ht,hz⟩:=I.list (.inl (.inr ⟨_,hq⟩));refine j6 (I.ok.hd hc) ht.isList (by simp[hn,<-hl,<-rv.length,rr.length]) hst λh' hx=>?_;have I1:Inv X pins σ H { s with heap:=h' }:=I.kept (t':=s.toks) λb o e=>hx b o (Nat.ne_of_lt (Heap.lt_size e)) e;exact h.run pins _ σ H H₀ σD _ _ xs Q I1 ok (by simpa using rv) rr q
 |_=>exact q.elim⟩
variable {elt:Expr}{ifs:List Expr}{scope:Scope}{cl:List (Str×Addr)}{N' capt:List Str}{k:Nat}{js is:List Nat}{ti:DTF}{g:DTG}{tt:DTT}
theorem zks{i:Nat}{x:Str}{pos' spos:Pos}(hN:X.N.Nodup)(hi':X.N[i]?=some x)(hx:Loc X.env.scope x)(hc:X.calm=true)(L:zc1 X scope cl N' capt k js)
  (hi:DIw X tg iter ti) (hg:∀C fp s2 H2,DG (yd X N' scope cl C fp s2 H2) tg is g) (ht:∀C fp s2 H2,DTs (yd X N' scope cl C fp s2 H2) ifs tt) (he:∀C fp s2 H2,DE (yd X N' scope cl C fp s2 H2) elt te)
  (his:∀j∈is,j<k) (hsw:swapsWith (.ListComp elt [⟨tg,iter,ifs,0⟩] scope pos) (some (.Name x pos')) spos.line X.env=pure true) (hs:∀x,foldedSetIterable iter X.env x=pure x) (hf:X.fn x=true\/X.env.scope.names.lookup x=some .local)
  {pins:List (Addr×Obj)}{s:Shared}{σ:St}{H H₀:Hp}{σD:DSt}{Q:List D->Prop} (I:Inv X pins σ H s) (ok:DOk X.K H₀ H σD σ) (q:dLC k js ti g tt te σD Q) :
  wpAny (model X.prog X.w) X.A (exec (.Assign [.Name x pos'] (.ListComp elt [⟨tg,iter,ifs,0⟩] scope pos) spos) X.env) (λf s'=>f=.next/\∃a H' vs xs,Inv X pins (σ.set i (some (.ref a))) H' s'/\Same H H'/\H a=none/\H' a=some (.lst vs)/\Reps X.K H' xs vs/\Q xs) X.xe s:=by
 refine thn (zfm (wi:=cnI X.K Same ti) (g:=cnG X.K is g) (tt:=cnT X.K tt) (te:=cnE X.K te) hN hi' hx hc L hi.pi (λC fp s2 H2=>(hg C fp s2 H2).pg) (λC fp s2 H2=>(ht C fp s2 H2).pts) (λC fp s2 H2=>(he C fp s2 H2).pe) hsw hs hf pins s σ H
  { nx:=λσ' H'=>∃a vs xs,σ'=σ.set i (some (.ref a))/\Same H H'/\H a=none/\H' a=some (.lst vs)/\Reps X.K H' xs vs/\Q xs,rt:=λ_ _=>False } I ?_) λf s' z=>?_
 ·refine⟨H₀,σD,_,ok,q,λJ H1 ds s1 it q1 Dd hn=>?_⟩
  have z:=zfu (k:=k) (js:=js) (is:=is) (gL:=cnG X.K is g) (Dd:=Dd) (ok.after s1) it q1.1 (λd v σ' H' Q σ0 ok0 r0 q0=>⟨H1,σ0,d,Q,ok0,r0,q0,λσ2 σD2 l2 ok2 f2 q2=>⟨rfl,l2,f2,σD2,ok2,q2⟩⟩)
   (λv σ' H' Q Q' m zq7=>by obtain⟨a,b,c,d,e1,e2,e3,e4⟩:=zq7;exact⟨a,b,c,d,e1,e2,e3,λσ2 σD2 l o f q=>m _ _ (e4 σ2 σD2 l o f q)⟩) his hn q1.2
  obtain⟨W,w0,turn⟩:=z;refine⟨W,w0,λi m σ' H' w=>?_⟩;rcases turn i m σ' H' w with⟨st,aa,vs,xs,e,sm,n,e2,r,qd⟩|h
  ·exact .inl ⟨st,aa,vs,xs,by rw[e],s1.trans sm,s1.free n,e2,r,qd⟩
  ·exact .inr h
 ·cases f with
  |next=>obtain⟨σ',H',I',a,vs,xs,rfl,sm,n,e,r,q⟩:=z;exact⟨rfl,a,H',vs,xs,I',sm,n,e,r,q⟩
  |ret u=>obtain⟨_,_,_,_,_,z⟩:=z;exact z.elim
  |brk=>obtain⟨_,_,_,z⟩:=z;exact z.elim
  |cont=>obtain⟨_,_,_,z⟩:=z;exact z.elim
theorem zmp{i:Nat}{x:Str}{pos' spos:Pos}(hN:X.N.Nodup)(hi':X.N[i]?=some x)(hx:Loc X.env.scope x)(hc:X.calm=true)(L:zc1 X scope cl N' capt k js)
  (hi:DIw X tg iter ti) (hg:∀C fp s2 H2,DG (yd X N' scope cl C fp s2 H2) tg is g) (ht:∀C fp s2 H2,DTs (yd X N' scope cl C fp s2 H2) ifs tt) (he:∀C fp s2 H2,DE (yd X N' scope cl C fp s2 H2) elt te)
  (his:∀j∈is,j<k:=by decide) (hsw:swapsWith (.ListComp elt [⟨tg,iter,ifs,0⟩] scope pos) (some (.Name x pos')) spos.line X.env=pure true:=by rfl) (hs:∀x,foldedSetIterable iter X.env x=pure x:=by intro _;rfl) (hf:X.fn x=true\/X.env.scope.names.lookup x=some .local:=by first|exact .inl rfl|exact .inr rfl|assumption) :
  DS X (.Assign [.Name x pos'] (.ListComp elt [⟨tg,iter,ifs,0⟩] scope pos) spos) (zpl i (dFz (dLC k js ti g tt te))):=⟨λpins s σ H H₀ σD Dn I ok q=>by
 refine thn (zks hN hi' hx hc L hi hg ht he his hsw hs hf I ok q) λf s' zr83=>?_;obtain⟨ef,a,H',vs,xs,I',sm,n,e,r,qd⟩:=zr83;subst ef;obtain⟨H'',J,sm',r'⟩:=zb3 I' sm n e r;exact⟨_,H'',_,J,(ok.after sm').setV r' i,sm'.pers,qd⟩⟩
inductive RepRs(K:PySem.W.Frag):Hp->Hp->List Ret->List V->Prop
 |nil {H H':Hp} (s:Same H H'):RepRs K H H' [] []
 |val {H H1 H':Hp}{d:D}{v:V}{rs:List Ret}{vs:List V} (s:Same H H1) (r:Rep K H1 d v) (t:RepRs K H1 H' rs vs):RepRs K H H' (.val d::rs) (v::vs)
 |new {H H1 H':Hp}{xs:List D}{a:Addr}{ws:List V}{rs:List Ret}{vs:List V} (s:Same H H1) (n:H a=none) (e:H1 a=some (.lst ws)) (r:Reps K H1 xs ws) (t:RepRs K H1 H' rs vs):RepRs K H H' (.new xs::rs) (.ref a::vs)
theorem RepRs.same{K:PySem.W.Frag}{H H':Hp}{rs:List Ret}{vs:List V}(h:RepRs K H H' rs vs):Same H H':=by
 induction h with
 |nil s=>exact s
 |val s _ _ ih=>exact s.trans ih
 |new s _ _ _ _ ih=>exact s.trans ih
theorem RepRs.length{K:PySem.W.Frag}{H H':Hp}{rs:List Ret}{vs:List V}(h:RepRs K H H' rs vs):rs.length=vs.length:=by
 induction h with
 |nil s=>rfl
 |val s _ _ ih=>simp[ih]
 |new s _ _ _ _ ih=>simp[ih]
abbrev DTM:=DSt->(List Ret->Prop)->Prop
structure DM(X:Cx)(es:List Expr)(t:DTM):Prop where
 run:∀(pos:Pos) (pins:List (Addr×Obj)) (s:Shared) (σ:St) (H H₀:Hp) (σD:DSt) (Q:List Ret->Prop),Inv X pins σ H s->DOk X.K H₀ H σD σ->t σD Q ->
  wpAny (model X.prog X.w) X.A (spliced (backTo pos (starEach es X.env))) (λus s'=>∃vs H' rs,Inv X pins σ H' s'/\Vals vs us/\RepRs X.K H H' rs vs/\Q rs) X.xe s
def cnM(K:PySem.W.Frag)(t:DTM):TA:=λσ H Q=>∃H₀ σD QD,DOk K H₀ H σD σ/\t σD QD/\∀vs H' rs,RepRs K H H' rs vs->QD rs->Q vs H'
theorem DM.pa{t:DTM}(h:DM X es t):PA X es (cnM X.K t):=λpos pins s σ H Q I zq65=>by obtain⟨H₀,σD,QD,ok,q,k⟩:=zq65;exact thn (h.run pos pins s σ H H₀ σD QD I ok q) λus s' zq60=>by obtain⟨vs,H',rs,I',r,rp,qd⟩:=zq60;exact⟨vs,H',I',r,k vs H' rs rp qd⟩
def zmq:DTM:=λ_ Q=>Q []
def zmr(t:DTE)(r:DTM):DTM:=λσ Q=>t σ λd=>r σ λrs=>Q (.val d::rs)
def zms(t:DTF)(r:DTM):DTM:=λσ Q=>t σ λxs=>r σ λrs=>Q (.new xs::rs)
theorem zsz:DM X [] zmq:=⟨λpos pins s σ H H₀ σD Q I ok q=>thn (x3 pos pins s σ H (λvs H'=>vs = []/\H'=H) I ⟨rfl,rfl⟩) λus s' zq48=>by obtain⟨vs,H',I',r,e1,e2⟩:=zq48;subst e1 e2;exact⟨[],H',[],I',r,.nil (Same.refl _),q⟩⟩
theorem zhr{r:DTM}(ha:DE X e te)(hr:DM X es r)(hs:starEach (e::es) X.env=(false,eval e X.env)::starEach es X.env:=by rfl):DM X (e::es) (zmr te r):=⟨λpos pins s σ H H₀ σD Q I ok q=>by
 refine thn (yw ha.pe hr.pa hs pos pins s σ H (λvs H'=>∃rs,RepRs X.K H H' rs vs/\Q rs) I ?_) λus s' zq10=>by obtain⟨vs,H',I',r,rs,rp,qd⟩:=zq10;exact⟨vs,H',rs,I',r,rp,qd⟩
 exact⟨H₀,σD,_,ok,q,λv H1 d s1 r1 q1=>⟨H₀,σD,_,ok.after s1,q1,λvs H2 rs r2 q2=>⟨.val d::rs,.val s1 r1 r2,q2⟩⟩⟩⟩
theorem zs0{r:DTM}(ha:DF X e tf)(hr:DM X es r)(hs:starEach (e::es) X.env=(false,eval e X.env)::starEach es X.env:=by rfl):DM X (e::es) (zms tf r):=⟨λpos pins s σ H H₀ σD Q I ok q=>by
 refine thn (yw ha.pe hr.pa hs pos pins s σ H (λvs H'=>∃rs,RepRs X.K H H' rs vs/\Q rs) I ?_) λus s' zq10=>by obtain⟨vs,H',I',r,rs,rp,qd⟩:=zq10;exact⟨vs,H',rs,I',r,rp,qd⟩
 exact⟨H₀,σD,_,ok,q,λa H1 ws xs s1 n e r1 q1=>⟨H₀,σD,_,ok.after s1,q1,λvs H2 rs r2 q2=>⟨.new xs::rs,.new s1 n e r1 r2,q2⟩⟩⟩⟩
section
variable {pins:List (Addr×Obj)}{σ:St}{H:Hp}{s:Shared}
theorem RepN.reads(I:Inv X pins σ H s){d:D}{v:V}{u:Value}(h:RepN X.K H d v)(r:RelV v u):∃as,Reads s.heap u d as:=by
 refine RepN.rec (motive_1:=λd v _=>∀u:Value,RelV v u->∃as,Reads s.heap u d as) (motive_2:=λds vs _=>∀us:List Value,Vals vs us->∃as,ReadsAll s.heap us ds as) ?_ ?_ ?_ ?_ ?_ ?_ ?_ ?_ h u r
 ·intro u r;cases r;exact⟨_,.none⟩
 ·intro b u r;cases r;exact⟨_,.bool _⟩
 ·intro i u r;obtain⟨t,rfl⟩:=r;exact⟨_,.int _ _⟩
 ·intro x u r;obtain⟨t,rfl⟩:=r;exact⟨_,.str _ _⟩
 ·intro xs a vs h q ih u r
  cases r;obtain⟨its,rv,⟨o,e1,e2,n,e3⟩,_⟩:=I.tuple h;obtain⟨as,ra⟩:=ih its rv;exact⟨_,.tuple e1 e2 e3 (by simpa using ra)⟩
 ·intro xs a vs h q ih u r
  cases r;obtain⟨z,its,n,rv,e⟩:=h.ok I.hok;obtain⟨as,ra⟩:=ih its rv;exact⟨_,.list e rfl rfl (by simpa using ra)⟩
 ·intro us r;cases r;exact⟨_,.nil⟩
 ·intro d v ds vs q t i j us r
  cases r with
  |cons r1 r2=>
   obtain⟨as,ra⟩:=i _ r1;obtain⟨bs,rb⟩:=j _ r2;exact⟨_,.cons ra rb⟩
end
def zu3(X:Cx)(pins:List (Addr×Obj))(σ:St)(H:Hp)(Q:D->Prop)(u:Value)(s':Shared):Prop:=∃v H' d,Inv X pins σ H' s'/\RelV v u/\Same H H'/\RepN X.K H' d v/\Q d
structure DN(X:Cx)(e:Expr)(t:DTE):Prop where
 run:∀(pins:List (Addr×Obj)) (s:Shared) (σ:St) (H H₀:Hp) (σD:DSt) (Q:D->Prop),Inv X pins σ H s->DOk X.K H₀ H σD σ->t σD Q->wpAny (model X.prog X.w) X.A (eval e X.env) (zu3 X pins σ H Q) X.xe s
structure DAn(X:Cx)(es:List Expr)(t:DTF):Prop where
 run:∀(pos:Pos) (pins:List (Addr×Obj)) (s:Shared) (σ:St) (H H₀:Hp) (σD:DSt) (Q:List D->Prop),Inv X pins σ H s->DOk X.K H₀ H σD σ->t σD Q ->
  wpAny (model X.prog X.w) X.A (spliced (backTo pos (starEach es X.env))) (λus s'=>∃vs H' ds,Inv X pins σ H' s'/\Vals vs us/\Same H H'/\RepNs X.K H' ds vs/\Q ds) X.xe s
def cnN(K:PySem.W.Frag)(t:DTE):TE:=λσ H Q=>∃H₀ σD QD,DOk K H₀ H σD σ/\t σD QD/\∀v H' d,Same H H'->RepN K H' d v->QD d->Q v H'
def zwc(K:PySem.W.Frag)(t:DTF):TA:=λσ H Q=>∃H₀ σD QD,DOk K H₀ H σD σ/\t σD QD/\∀vs H' ds,Same H H'->RepNs K H' ds vs->QD ds->Q vs H'
theorem DN.pe{t:DTE}(h:DN X e t):PE X e (cnN X.K t):=λpins s σ H Q I zq63=>by obtain⟨H₀,σD,QD,ok,q,k⟩:=zq63;exact thn (h.run pins s σ H H₀ σD QD I ok q) λu s' zq50=>by obtain⟨v,H',d,I',r,sm,rp,qd⟩:=zq50;exact⟨v,H',I',r,k v H' d sm rp qd⟩
theorem DAn.pa{t:DTF}(h:DAn X es t):PA X es (zwc X.K t):=λpos pins s σ H Q I zq68=>by obtain⟨H₀,σD,QD,ok,q,k⟩:=zq68;exact thn (h.run pos pins s σ H H₀ σD QD I ok q) λus s' zq63=>by obtain⟨vs,H',ds,I',r,sm,rp,qd⟩:=zq63;exact⟨vs,H',I',r,k vs H' ds sm rp qd⟩
theorem DN.of{t:DTE}{t':TE}(h:PE X e t')(k:∀σ H H₀ σD QD,DOk X.K H₀ H σD σ->t σD QD->t' σ H (λv H'=>∃d,Same H H'/\RepN X.K H' d v/\QD d)):DN X e t :=
 ⟨λpins s σ H H₀ σD Q I ok q=>thn (h pins s σ H _ I (k σ H H₀ σD Q ok q)) λu s' zq80=>by obtain⟨v,H',I',r,d,sm,rp,qd⟩:=zq80;exact⟨v,H',d,I',r,sm,rp,qd⟩⟩
def zs1(t:DTE):DTE:=λσ Q=>t σ λd=>d.canLay0=true/\Q d
theorem zmt{d:D}(c:d.canLay0=true):∀kvs,d ≠ .dict kvs:=λkvs e=>by subst e;simp[PyData.canLay0]at c
theorem DE.dn{t:DTE}(h:DE X e t):DN X e (zs1 t):=⟨λpins s σ H H₀ σD Q I ok q=>thn (h.run pins s σ H H₀ σD _ I ok q) λu s' zq35=>by obtain⟨v,H',d,I',r,sm,rp,qd⟩:=zq35;exact⟨v,H',d,I',r,sm,rp.now (zmt qd.1) qd.1,qd.2⟩⟩
def zi8(i:Nat):DTE:=λσ Q=>match σ[i]? with
 |some (some (.val d))=>d.canLay0=true/\Q d
 |some (some (.own (.lst xs)))=>PyData.canLayAll0 xs=true/\Q (.list xs)
 |some (some (.vw xs))=>PyData.canLayAll0 xs=true/\Q (.list xs)
 |some (some (.tmp d))=>Q d
 |_=>False
theorem zmu(i:Nat){x:Str}{pos:Pos}(hN:X.N[i]?=some x:=by rfl)(hv:Vis X.env.scope x:=by first|exact Or.inl rfl|exact Or.inr (Or.inl rfl)|exact Or.inr (Or.inr rfl))(hd:(x ==("__debug__" : Str))=false:=by decide)
  (hcd:(x ==("__classdict__" : Str))=false:=by decide):DN X (.Name x pos) (zi8 i):=by
 refine DN.of (y4 (i:=i) hN hv hd hcd) λσ H H₀ σD QD ok q=>?_;unfold zi8 at q
 split at q
 ·next d e=>
  obtain⟨v,e1,r⟩:=ok.val e;exact⟨v,e1,d,Same.refl _,r.now (zmt q.1) q.1,q.2⟩
 ·next xs e=>
  obtain⟨a,vs,e1,e2,r,_⟩:=ok.ownL e;exact⟨.ref a,e1,.list xs,Same.refl _,.lst (.inl e2) (r.now q.1),q.2⟩
 ·next xs e=>
  obtain⟨v,e1,a,vs,rfl,e2,r⟩:=ok.vw e;exact⟨.ref a,e1,.list xs,Same.refl _,.lst e2 (r.now q.1),q.2⟩
 ·next d e=>
  obtain⟨v,e1,r⟩:=ok.tmp e;exact⟨v,e1,d,Same.refl _,r,q⟩
 ·exact q.elim
theorem zen:DAn X [] zlz:=⟨λpos pins s σ H H₀ σD Q I ok q=>thn (x3 pos pins s σ H (λvs H'=>vs = []/\H'=H) I ⟨rfl,rfl⟩) λus s' zq49=>by obtain⟨vs,H',I',r,e1,e2⟩:=zq49;subst e1 e2;exact⟨[],H',[],I',r,Same.refl _,.nil,q⟩⟩
theorem j7{t:DTE}{r:DTF}(ha:DN X e t)(hr:DAn X es r)(hs:starEach (e::es) X.env=(false,eval e X.env)::starEach es X.env:=by rfl):DAn X (e::es) (zfq t r):=⟨λpos pins s σ H H₀ σD Q I ok q=>by
 refine thn (yw ha.pe hr.pa hs pos pins s σ H (λvs H'=>∃ds,Same H H'/\RepNs X.K H' ds vs/\Q ds) I ?_) λus s' zq20=>by obtain⟨vs,H',I',r,ds,sm,rp,qd⟩:=zq20;exact⟨vs,H',ds,I',r,sm,rp,qd⟩
 exact⟨H₀,σD,_,ok,q,λv H1 d s1 r1 q1=>⟨H₀,σD,_,ok.after s1,q1,λvs H2 ds s2 r2 q2=>⟨d::ds,s1.trans s2,.cons (r1.same s2) r2,q2⟩⟩⟩⟩
theorem RepNs.length{K:PySem.W.Frag}{H:Hp}{ds:List D}{vs:List V}(h:RepNs K H ds vs):ds.length=vs.length:=h.ind (P:=λds vs=>ds.length=vs.length) rfl λ_ _ _ _ _ _ j=>congrArg (·+1) j
theorem zs2{t:DTF}(h:DAn X es t):DN X (.List es pos) (dFz (zpa t)) :=
 DN.of (zhb h.pa) λσ H H₀ σD QD ok q=>⟨H₀,σD,_,ok,q,λvs H1 ds s1 r1 q1=>⟨by rw[<-r1.length];exact q1.1,λp hp=>⟨.list ds,s1.trans (z5 hp _),.lst (.inl zq) (r1.same (z5 hp _)),q1.2⟩⟩⟩
end
section
variable {X:Cx}{tg iter e:Expr}{es:List Expr}{te:DTE}{tf:DTF}{p pos:Pos}
def zmv:List D->(D->Prop)->Prop
 |[.list xs],Q=>∃ns,za9 xs=some ns/\0<ns.length/\∀m:Int,m∈ns->(∀a∈ns,a<=m)->Q (.int m)
 |_,_=>False
theorem zkt(hc:X.calm=true):wj X (.builtin "max") (λvs H Q=>∃(l:Addr) (ns:List Int),vs = [.ref l]/\SqL X.K H l (ns.map V.int)/\0<ns.length/\∀m:Int,m∈ns->(∀a∈ns,a<=m)->Q (.int m) H):=by
 intro pins s σ H xs us Q I rv h;obtain⟨l,ns,rfl,hq,hne,q⟩:=h;obtain⟨u,rfl,r1⟩:=rv.one
 cases r1;obtain⟨its,rvs,pl,hz⟩:=I.list hq;have hi:IntsAre its ns:=zhf rvs;obtain⟨xs,e⟩:=hi.allInts.items;have hns:ns=xs.toList.map (·.1):=by rw[<-hi.numsOf,<-nums_intItems,<-e]
 have hsz:0<xs.size:=by have h3:=hne;rw[hns,List.length_map,Array.length_toList]at h3;exact h3
 have hl:s.heap.IsList l (intItems xs):=by rw[<-e];exact pl.isList
 refine max_intList (I.ok.hd hc) hl hsz λv h' tk hv hk=>?_;obtain⟨t,rfl⟩:=intItems_at hv;obtain⟨h1,h2⟩:=argBest_gt (numAt xs) (xs.size-1);refine⟨.int _,H,I.kept hk,⟨t,rfl⟩,q _ ?_ λa ha=>?_⟩
 ·rw[hns,numAt_eq];exact getD_mem (by rw[List.length_map,Array.length_toList];(clear hne hz;omega))
 ·rw[hns]at ha;obtain⟨j,hj,rfl⟩:=mem_getD ha;rw[List.length_map,Array.length_toList]at hj;rw[<-numAt_eq];exact h2 j (by (clear hne hz h1;omega))
theorem zmw(hc:X.calm=true):CallD X (.builtin "max") zmv:=CallD.of (zkt hc) λvs H ds Q rd q=>by
 match ds,q,rd with
 |[.list xs],q,rd=>
  obtain⟨v,rfl,r⟩:=rd.one;obtain⟨a,vs,rfl,h,r⟩:=r.list.sq;obtain⟨ns,e,hl,q⟩:=q
  cases zdl r e;exact⟨a,ns,rfl,h,hl,λm h1 h2=>⟨_,Same.refl _,.int,q m h1 h2⟩⟩
end
theorem zi9{f:D->(Option D->Prop)->Prop}(Pv:D->D->Prop):∀{ds:List D}{Q:List D->Prop},(∀d∈ds,∀k:Option D->Prop,(∀y,Pv d y->k (some y))->f d k)->(∀ys,Paired Pv ds ys->Q ys)->lcD f ds Q
 |[],Q,_,q=>q [] .nil
 |d::ds,Q,h,q=>h d List.mem_cons_self _ λy hy=>zi9 Pv (λe he=>h e (List.mem_cons_of_mem _ he)) λys hys=>q (y::ys) (.cons hy hys)
theorem kj{α:Type}{f:D->(Option D->Prop)->Prop}(enc:α->D)(F:α->Option D){as:List α}{Q:List D->Prop}(h:∀a∈as,∀k:Option D->Prop,k (F a)->f (enc a) k)(q:Q (as.filterMap F)):lcD f (as.map enc) Q:=by
 induction as generalizing Q with
 |nil=>exact q
 |cons a as ih=>
  refine h a List.mem_cons_self _ (ih (λe he=>h e (List.mem_cons_of_mem _ he)) ?_);rw[List.filterMap_cons]at q
  cases e:F a with
  |none=>rw[e]at q;exact q
  |some y=>rw[e]at q;exact q
theorem zfx{α:Type}{f:D->(Option D->Prop)->Prop}(enc:α->D)(F:α->D){as:List α}{Q:List D->Prop}(h:∀a∈as,∀k:Option D->Prop,k (some (F a))->f (enc a) k)(q:Q (as.map F)):lcD f (as.map enc) Q :=
 kj enc (λa=>some (F a)) h (by rw[List.filterMap_eq_map'];exact q)
theorem zhs{f:D->(Option D->Prop)->Prop}{lo:Int}{n:Nat}{Q:List D->Prop}(Pv:D->Prop)(h:∀d,∀k:Option D->Prop,(∀y,Pv y->k (some y))->f d k)(q:∀ys:List D,ys.length=n->(∀y∈ys,Pv y)->Q ys):lcD f (y0 lo n) Q:=by
 refine zi9 (λ_ y=>Pv y) (λd _ k hk=>h d k hk) λys hys=>q ys ?_ ?_
 ·have:=Paired.length hys;rw[<-this];simp[y0]
 ·clear q h;generalize y0 lo n=ds at hys
  induction hys with
  |nil=>intro y hy;cases hy
  |cons r t ih=>intro y hy;rcases List.mem_cons.mp hy with rfl|hy;exact r;exact ih y hy
theorem zja{α:Type}{Pv:α->Prop}{enc:α->D}:∀{ys:List D},(∀y∈ys,∃a,y=enc a/\Pv a)->∃as:List α,ys=as.map enc/\∀a∈as,Pv a
 |[],_=>⟨[],rfl,λa ha=>by cases ha⟩
 |y::ys,h=>by
  obtain⟨a,rfl,pa⟩:=h y List.mem_cons_self;obtain⟨as,rfl,pas⟩:=zja λz hz=>h z (List.mem_cons_of_mem _ hz);exact⟨a::as,rfl,λb hb=>by rcases List.mem_cons.mp hb with rfl|hb;exact pa;exact pas b hb⟩
theorem zw{α:Type}(x:α)(xs:List α):atI (x::xs) 0=some x:=by
 have:=qw (xs:=x::xs) (j:=0) (v:=x) rfl;simpa using this
theorem ym{α:Type}(x y:α)(xs:List α):atI (x::y::xs) 1=some y:=by
 have:=qw (xs:=x::y::xs) (j:=1) (v:=y) rfl;simpa using this
theorem xw{α:Type}(x y z:α)(xs:List α):atI (x::y::z::xs) 2=some z:=by
 have:=qw (xs:=x::y::z::xs) (j:=2) (v:=z) rfl;simpa using this
theorem xh{α:Type}(x y z w:α)(xs:List α):atI (x::y::z::w::xs) 3=some w:=by
 have:=qw (xs:=x::y::z::w::xs) (j:=3) (v:=w) rfl;simpa using this
theorem zfy{α:Type}(x y z w v:α)(xs:List α):atI (x::y::z::w::v::xs) 4=some v:=by
 have:=qw (xs:=x::y::z::w::v::xs) (j:=4) (v:=v) rfl;simpa using this
theorem zu4{xs:List D}{k:Int}{Q:D->Prop}(h0:0<=k)(h1:k<xs.length)(h:∀x∈xs,Q x):∃d,atI xs k=some d/\Q d:=by
 obtain⟨v,e,m⟩:=zly h0 h1;exact⟨v,e,h v m⟩
theorem zu5{ns:List Int}{k lo hi:Int}{Q:D->Prop}(h0:0<=k)(h1:k<ns.length)(hb:∀n∈ns,lo<=n/\n<=hi)(h:∀n:Int,lo<=n->n<=hi->Q (.int n)):∃d,atI (ns.map PyData.int) k=some d/\Q d :=
 zu4 h0 (by simpa using h1) λx hx=>by
  obtain⟨n,hn,rfl⟩:=List.mem_map.mp hx;exact h n (hb n hn).1 (hb n hn).2
theorem zht{α:Type}(enc:α->D)(xs:List α)(lo hi:Option Int):∃ys:List α,wm (xs.map enc) lo hi=ys.map enc/\(∀y∈ys,y∈xs)/\ys.length<=xs.length:=by
 refine⟨(xs.drop (HT.sIx xs.length 0 lo)).take (HT.sIx xs.length xs.length hi-HT.sIx xs.length 0 lo),?_,λy hy=>List.mem_of_mem_drop (List.mem_of_mem_take hy),?_⟩
 ·unfold wm;rw[List.length_map,List.map_take,List.map_drop]
 ·rw[List.length_take,List.length_drop];lia
structure Sh(d:D)(n k:Nat):Prop where
 can:d.canLay0=true
 sho:d.showable=true
 dep:d.depth<=k
 len:d.shown.length<=n
theorem Sh.mono{d:D}{n k n' k':Nat}(h:Sh d n k)(h1:n<=n')(h2:k<=k'):Sh d n' k':=⟨h.can,h.sho,Nat.le_trans h.dep h2,Nat.le_trans h.len h1⟩
theorem zs3{i:Int}(h:i.natAbs<10 ^ 40):i.natAbs.log2<1920:=by
 by_cases h0:i.natAbs=0
 ·rw[h0];decide
 ·exact(Nat.log2_lt h0).mpr (Nat.lt_of_lt_of_le h (Nat.le_trans (by decide:10 ^ 40<=2 ^ 200) (Nat.pow_le_pow_right (by decide) (by decide))))
theorem Sh.int{i:Int}(h:i.natAbs<10 ^ 40):Sh (.int i) 41 0 :=
 ⟨rfl,by simp only[PyData.showable];exact decide_eq_true (zs3 h),Nat.le_refl _,by
  have:=int_text_length_le10 (a:=i) (k:=40) (by decide) h;simp only[PyData.shown];show(Str.ofString (toString i)).length<=41;rw[PySem.ofString_length];exact this⟩
theorem Sh.intB{i:Int}(h1 : -1000000000000000000000000000000000000000<=i)(h2:i<=1000000000000000000000000000000000000000):Sh (.int i) 41 0:=Sh.int (by omega)
theorem zdn:∀{xs:List D}{n k:Nat},(∀x∈xs,Sh x n k)->PyData.canLayAll0 xs=true
 |[],_,_,_=>rfl
 |x::xs,n,k,h=>by simp only[PyData.canLayAll0,(h x List.mem_cons_self).can,zdn λy hy=>h y (List.mem_cons_of_mem _ hy),Bool.and_self]
theorem zdo:∀{xs:List D}{n k:Nat},(∀x∈xs,Sh x n k)->PyData.showableAll xs=true
 |[],_,_,_=>rfl
 |x::xs,n,k,h=>by simp only[PyData.showableAll,(h x List.mem_cons_self).sho,zdo λy hy=>h y (List.mem_cons_of_mem _ hy),Bool.and_self]
theorem zdp:∀{xs:List D}{n k:Nat},(∀x∈xs,Sh x n k)->PyData.depthAll xs<=k
 |[],_,_,_=>Nat.zero_le _
 |x::xs,n,k,h=>by
  simp only[PyData.depthAll];exact Nat.max_le.mpr ⟨(h x List.mem_cons_self).dep,zdp λy hy=>h y (List.mem_cons_of_mem _ hy)⟩
theorem zdq:∀{xs:List D}{n k:Nat},(∀x∈xs,Sh x n k)->((PyData.shownAll xs).map (·.length)).sum<=xs.length * n
 |[],_,_,_=>by simp[PyData.shownAll]
 |x::xs,n,k,h=>by
  simp only[PyData.shownAll,List.map_cons,List.sum_cons,List.length_cons];have h1:=(h x List.mem_cons_self).len;have h2:=zdq λy hy=>h y (List.mem_cons_of_mem _ hy);rw[Nat.succ_mul];lia
theorem vt:∀xs:List D,(PyData.shownAll xs).length=xs.length
 |[]=>rfl
 |x::xs=>by simp only[PyData.shownAll,List.length_cons,vt xs]
theorem Sh.lst{xs:List D}{n k m:Nat}(h:∀x∈xs,Sh x n k)(hl:xs.length<=m):Sh (.list xs) (m *(n+2)+3) (k+1) where
 can:=by simpa[PyData.canLay0]using zdn h
 sho:=by simpa[PyData.showable]using zdo h
 dep:=by simp only[PyData.depth];have:=zdp h;lia
 len:=by
  simp only[PyData.shown];have h1:=listText_len_le (PyData.shownAll xs);have h2:=zdq h;rw[vt]at h1;have h3:xs.length *(n+2)<=m *(n+2):=Nat.mul_le_mul_right _ hl;rw[Nat.mul_add]at h3;lia
theorem Sh.lay{d:D}{n k:Nat}(h:Sh d n k)(hk:k<=64):Lay d:=by
 unfold Lay SeqAt.shaped;rw[Bool.and_eq_true];exact⟨h.can,decide_eq_true (Nat.le_trans h.dep hk)⟩
theorem Sh.all{d:D}{n k:Nat}(h:Sh d n k)(hk:k<=64)(hn:n<=16777216):Lay d/\d.showable=true/\d.shown.length<=sizeLine:=⟨h.lay hk,h.sho,Nat.le_trans h.len (by rw[sizeLine_eq];exact hn)⟩
theorem xi{m:Int}{Q:Ret->Prop}(h1:0<m)(h2:m<10000000000000000000000000000000000000000000000000000000000000)(q:∀v:Int,0<=v->v<m->Q (.val (.int v))):xo [.pen,.val (.int m)] Q:=⟨m,rfl,h1,h2,q⟩
end L2
set_option maxHeartbeats 4000000
namespace L2
open PySem PySem.Spec PyProof.Rows
theorem atI_end{α:Type}(xs:List α)(x:α):atI (xs ++ [x]) (-1)=some x:=zfk xs x
theorem zba(xs:List D){n:Int}(h:0<=n):wm xs (some n) none=xs.drop n.toNat:=by
 obtain⟨k,rfl⟩:∃k:Nat,n=k:=⟨n.toNat,by lia⟩
 unfold wm;rw[HT.sIx_none,HT.sIx_nat,Int.toNat_natCast]
 by_cases c:k<=xs.length
 ·rw[Nat.min_eq_left c,List.take_of_length_le (by rw[List.length_drop];lia)]
 ·rw[Nat.min_eq_right (by lia),List.drop_eq_nil_of_le (by lia:xs.length<=k),List.drop_eq_nil_of_le (Nat.le_refl _),List.take_nil]
theorem zb5(lo:Int)(n:Nat):(y0 lo n).length=n:=by simp[y0]
mutual
def NB:D->Bool
 |.none=>true
 |.bool _=>false
 |.int _=>true
 |.str _=>true
 |.list xs=>NBs xs
 |.tuple xs=>NBs xs
 |.dict _=>false
def NBs:List D->Bool
 |[]=>true
 |x::xs=>NB x && NBs xs
end
mutual
theorem eqv_iff:∀(x y:D),NB x=true->NB y=true->(PyData.eqv x y=true↔x=y)
 |.none,.none,_,_=>by simp[PyData.eqv]
 |.none,.int _,_,_=>by simp[PyData.eqv]
 |.none,.str _,_,_=>by simp[PyData.eqv]
 |.none,.list _,_,_=>by simp[PyData.eqv]
 |.none,.tuple _,_,_=>by simp[PyData.eqv]
 |.int _,.none,_,_=>by simp[PyData.eqv]
 |.int _,.int _,_,_=>by simp[PyData.eqv]
 |.int _,.str _,_,_=>by simp[PyData.eqv]
 |.int _,.list _,_,_=>by simp[PyData.eqv]
 |.int _,.tuple _,_,_=>by simp[PyData.eqv]
 |.str _,.none,_,_=>by simp[PyData.eqv]
 |.str _,.int _,_,_=>by simp[PyData.eqv]
 |.str _,.str _,_,_=>by simp[PyData.eqv]
 |.str _,.list _,_,_=>by simp[PyData.eqv]
 |.str _,.tuple _,_,_=>by simp[PyData.eqv]
 |.list _,.none,_,_=>by simp[PyData.eqv]
 |.list _,.int _,_,_=>by simp[PyData.eqv]
 |.list _,.str _,_,_=>by simp[PyData.eqv]
 |.list xs,.list ys,h1,h2=>by simp only[PyData.eqv,PyData.list.injEq];exact eqvs_iff xs ys h1 h2
 |.list _,.tuple _,_,_=>by simp[PyData.eqv]
 |.tuple _,.none,_,_=>by simp[PyData.eqv]
 |.tuple _,.int _,_,_=>by simp[PyData.eqv]
 |.tuple _,.str _,_,_=>by simp[PyData.eqv]
 |.tuple _,.list _,_,_=>by simp[PyData.eqv]
 |.tuple xs,.tuple ys,h1,h2=>by simp only[PyData.eqv,PyData.tuple.injEq];exact eqvs_iff xs ys h1 h2
theorem eqvs_iff:∀(xs ys:List D),NBs xs=true->NBs ys=true->(PyData.eqvAll xs ys=true↔xs=ys)
 |[],[],_,_=>by simp[PyData.eqvAll]
 |[],_::_,_,_=>by simp[PyData.eqvAll]
 |_::_,[],_,_=>by simp[PyData.eqvAll]
 |x::xs,y::ys,h1,h2=>by
  simp only[NBs,Bool.and_eq_true]at h1 h2;simp only[PyData.eqvAll,Bool.and_eq_true,List.cons.injEq];rw[eqv_iff x y h1.1 h2.1,eqvs_iff xs ys h1.2 h2.2]
end
theorem zpo{n i:Nat}(h:i<n):ixN n (i:Int)=some i:=by
 unfold ixN;rw[if_pos (by lia)];simp[h]
def zhu:D->(D->Prop)->Prop
 |.bool b,Q=>Q (.str (if b=true then "True" else "False"))
 |d,Q=>Lay d/\d.showable=true/\d.shown.length<=sizeLine/\Q (.str d.shown)
def zhv(t:DTF):DTE:=λσ Q=>t σ λds=>match ds with
 |[d]=>zhu d Q
 |_=>False
section
variable {X:Cx}{e:Expr}{p pos:Pos}
theorem zfz{k:Nat}{t:DTF}(hr:Room k X.A)(hg:Gl X "repr")(hm:X.mg "repr" = none)(hv:bootBuiltins "repr" = some (.builtin "repr"))(ha:DAn X [e] t)(he:starEach [e] X.env=(false,eval e X.env)::starEach [] X.env:=by rfl):DE X (.Call (.Name "repr" p) [e] [] pos) (zhv t):=by
 have hc:wj X (.builtin "repr") (λvs H Q=>∃d v,vs = [v]/\RepN X.K H d v/\zhu d λr=>∃x,r=.str x/\∀H',H'=H->Q (.str x) H'):=λpins s σ H xs us Q I rv ⟨d,v,e,r,q⟩=>by
  subst e;obtain⟨u,rfl,r1⟩:=rv.one;have gen:Lay d->d.showable=true->d.shown.length<=sizeLine->Q (.str d.shown) H->(∃a,u=.ref a)->wpAny (model X.prog X.w) X.A (call (.builtin "repr") [u]) (EP X pins σ Q) X.xe s:=λh1 h2 h3 h4 ⟨a,ea⟩=>by
   subst ea;obtain⟨as,rd⟩:=r.reads I r1;have hu:=hr.un;have hd:=h1.deep;refine repr_of_reads' rd h2 (PyData.noDict_hsm ?_) hr.gd (by (clear h3;lia)) (λ_ _ e=>e) (λh' u tk hk=>⟨.str d.shown,H,I.kept hk,⟨_,rfl⟩,h4⟩) h3;exact PyData.hasDict_of_canLay _ h1.can
  cases r with
  |bl=>
   cases r1;obtain⟨x,e,q⟩:=q
   cases e;exact PySem.P.repr_of_bool ⟨.str _,H,I.tok _,⟨_,rfl⟩,q H rfl⟩
  |non=>
   cases r1;obtain⟨_,_,_,x,e,q⟩:=q
   cases e;exact PySem.P.repr_of_none ⟨.str _,H,I.tok _,⟨_,rfl⟩,q H rfl⟩
  |int=>
   obtain⟨t,rfl⟩:=r1;obtain⟨_,h2,_,x,e,q⟩:=q
   cases e;exact PySem.P.repr_of_int (of_decide_eq_true (by simpa[PyData.showable]using h2)) ⟨.str _,H,I.tok _,⟨_,rfl⟩,q H rfl⟩
  |str=>
   obtain⟨t,rfl⟩:=r1;obtain⟨_,_,h3,x,e,q⟩:=q
   cases e;exact PySem.P.repr_of_str ⟨.str _,H,I.tok _,⟨_,rfl⟩,q H rfl⟩ h3
  |tup h r=>
   obtain⟨h1,h2,h3,x,e,q⟩:=q
   cases e;exact gen h1 h2 h3 (q H rfl) ⟨_,by cases r1;rfl⟩
  |lst h r=>
   obtain⟨h1,h2,h3,x,e,q⟩:=q
   cases e;exact gen h1 h2 h3 (q H rfl) ⟨_,by cases r1;rfl⟩
 refine DE.of (v3 hc hg hm hv ha.pa (by decide) (by decide) he rfl) λσ H H₀ σD QD ok q=>⟨H₀,σD,_,ok,q,λvs H1 ds s1 r1 q1=>?_⟩
 match ds,r1,q1 with
 |[d],r1,q1=>
  cases r1 with
  |cons r t=>
   cases t;refine⟨d,_,rfl,r,?_⟩
   cases d with
   |bool b=>exact⟨_,rfl,λH' e=>⟨_,by subst e;exact s1,.str,q1⟩⟩
   |_=>exact⟨q1.1,q1.2.1,q1.2.2.1,_,rfl,λH' e=>⟨_,by subst e;exact s1,.str,q1.2.2.2⟩⟩
end
theorem Sh.rep{d:D}{n k:Nat}{Q:D->Prop}(h:Sh d n k)(hk:k<=64)(hn:n<=16777216)(hb:∀b,d ≠ .bool b)(q:Q (.str d.shown)):zhu d Q:=by
 obtain⟨h1,h2,h3⟩:=h.all hk hn
 cases d with
 |bool b=>exact absurd rfl (hb b)
 |_=>exact⟨h1,h2,h3,q⟩
end L2
namespace SQ
open PySem PyProof.Rows
set_option autoImplicit false
section
variable (prog:Program)(w:World)(A:Around)(s:Shared)(κ:KeyKind)(kd:SortKind)
def vz:Prop:=∀(E:Value->Shared->Prop) (x y:Value) (a b:κ.α) (Q:Bool->Shared->Prop),κ.keyOf x=some a->κ.keyOf y=some b->Q (κ.blt a b) s->wpAny (model prog w) A (keyLt' kd x y) Q E s
end
structure SG(kd:SortKind)(a₀:Array Keyed)(st:SortSt):Prop where
 perm:(arrOf st).Perm a₀
 kind:kindOf st=kd
 fail:failedOf st=none
theorem SG.sz{kd:SortKind}{a₀:Array Keyed}{st:SortSt}(g:SG kd a₀ st):(arrOf st).size=a₀.size:=g.perm.size_eq
theorem SG.arr{kd:SortKind}{a₀:Array Keyed}{st:SortSt}(g:SG kd a₀ st){xs:Array Keyed}(p:xs.Perm (arrOf st)):SG kd a₀ (setArr st xs):=⟨p.trans g.perm,g.kind,g.fail⟩
structure Mv(lo hi:Nat)(st st':SortSt):Prop where
 out:∀k,(k<lo\/hi<=k)->(arrOf st')[k]?=(arrOf st)[k]?
 pend:pendingOf st'=pendingOf st
theorem Mv.refl(lo hi:Nat)(st:SortSt):Mv lo hi st st:=⟨λ_ _=>rfl,rfl⟩
theorem Mv.trans{lo hi:Nat}{a b c:SortSt}(h1:Mv lo hi a b)(h2:Mv lo hi b c):Mv lo hi a c:=⟨λk hk=>(h2.out k hk).trans (h1.out k hk),h2.pend.trans h1.pend⟩
abbrev Up(κ:KeyKind)(xs:Array Keyed)(lo n:Nat):Prop:=∀i j,lo<=i->i<=j->j<lo+n->κ.kle (KK κ xs i) (KK κ xs j)
abbrev Dn(κ:KeyKind)(xs:Array Keyed)(lo n:Nat):Prop:=∀i j,lo<=i->i<=j->j<lo+n->κ.kle (KK κ xs j) (KK κ xs i)
theorem kl{st:SortSt}{i j lo hi:Nat}(hj:j<=(arrOf st).size)(h1:lo<=i)(h2:j<=hi):Mv lo hi st (setArr st (mirror (arrOf st) i j ((j-i) / 2))) :=
 ⟨λk hk=>by
  show(mirror (arrOf st) i j ((j-i) / 2))[k]?=_;rw[getElem?_mirror_all hj,if_neg (by lia)],rfl⟩
section
variable {prog:Program}{w:World}{A:Around}{E:Value->Shared->Prop}{s:Shared}{κ:KeyKind}{kd:SortKind}{a₀:Array Keyed}
theorem SG.key{st:SortSt}(g:SG kd a₀ st)(h0:KeysOf κ a₀){i:Nat}(hi:i<a₀.size):∃x p,(arrOf st)[i]?=some (x,p)/\κ.keyOf x=some (KK κ (arrOf st) i):=by
 have l:i<(arrOf st).size:=by rw[g.sz];exact hi
 obtain⟨a,ha⟩:=h0 ((arrOf st)[i]) ((Array.perm_iff_toList_perm.mp g.perm).mem_iff.mp (by simp));have e:(arrOf st)[i]?=some (arrOf st)[i]:=getElem?_pos _ i l;refine⟨(arrOf st)[i].1,(arrOf st)[i].2,e,?_⟩;rw[ha];unfold KK;rw[e];simp[ha]
theorem zmx{st:SortSt}{x y:Keyed}{a b:κ.α}{Q:Option Bool->SortSt->Prop}(L:vz prog w A s κ kd)(hk:kindOf st=kd)(ha:κ.keyOf x.1=some a)(hb:κ.keyOf y.1=some b)(q:Q (some (κ.blt a b)) st):
  wpS (model prog w) A E s (lt' x y) Q st:=by
 rw[lt'_eq];refine wpS_bind (wpS_get ?_);rw[hk];exact wpS_bind (wpS_lift (wpAny_attempt (L _ x.1 y.1 a b _ ha hb ⟨rfl,wpS_pure q⟩)))
theorem yt{st:SortSt}{xs:Array Keyed}{i:Nat}{p:Keyed}{Q:Keyed->SortSt->Prop}(e:xs[i]?=some p)(q:Q p st):wpS (model prog w) A E s (elem' xs i) Q st:=by
 rw[elem'_eq,e];exact wpS_pure q
theorem zb6{st:SortSt}{i j:Nat}{Q:Option Bool->SortSt->Prop}(L:vz prog w A s κ kd)(g:SG kd a₀ st)(h0:KeysOf κ a₀)(hi:i<a₀.size)(hj:j<a₀.size)
  (q:Q (some (κ.blt (KK κ (arrOf st) i) (KK κ (arrOf st) j))) st):wpS (model prog w) A E s (ltAt' i j) Q st:=by
 obtain⟨x,p,e1,k1⟩:=g.key h0 hi;obtain⟨y,r,e2,k2⟩:=g.key h0 hj;rw[ltAt'_eq];refine wpS_bind (wpS_get ?_);exact wpS_bind (yt e1 (wpS_bind (yt e2 (zmx L g.kind k1 k2 q))))
theorem zjb{st:SortSt}{i j:Nat}{Q:Unit->SortSt->Prop}(q:Q () (setArr st (mirror (arrOf st) i j ((j-i) / 2)))):wpS (model prog w) A E s (reverseSlice' i j) Q st:=by
 rw[reverseSlice'_eq];exact wpS_modify q
def zb7(lo a m:Nat):StateT SortSt Sem (Option (Option Nat)×Nat) :=
 forIn [a:m] ((none,a):Option (Option Nat)×Nat) λ_ c=>do
  let o <-ltAt' (lo+c.snd) (lo+c.snd-1)
  match o with
  |some less=>if less=true then pure (ForInStep.done (none,c.snd)) else pure (ForInStep.yield (none,c.snd+1))
  |_=>pure (ForInStep.done (some none,c.snd))
def zb8(lo n m:Nat):StateT SortSt Sem (Option Nat):=do
 reverseSlice' lo (lo+n)
 let c <-zb7 lo n m
 match c.fst with
 |some r=>pure r
 |none=>pure (some c.snd)
def zeo(lo n m:Nat):StateT SortSt Sem (Option (Option Nat)×Nat×Nat) :=
 forIn [n:m] ((none,n,0):Option (Option Nat)×Nat×Nat) λ_ c=>do
  let o <-ltAt' (lo+c.snd.fst) (lo+c.snd.fst-1)
  match o with
  |some less=>
   if less=true then
    if c.snd.snd > 0 then do
     reverseSlice' (lo+c.snd.fst-(c.snd.snd+1)) (lo+c.snd.fst)
     pure (ForInStep.yield (none,c.snd.fst+1,0))
    else pure (ForInStep.yield (none,c.snd.fst+1,0))
   else do
    let o <-ltAt' (lo+c.snd.fst-1) (lo+c.snd.fst)
    match o with
    |some more=>
     if more=true then pure (ForInStep.done (none,c.snd.fst,c.snd.snd))
     else pure (ForInStep.yield (none,c.snd.fst+1,c.snd.snd+1))
    |_=>pure (ForInStep.done (some none,c.snd.fst,c.snd.snd))
  |_=>pure (ForInStep.done (some none,c.snd.fst,c.snd.snd))
def zf0(lo n m:Nat):StateT SortSt Sem (Option Nat):=do
 liftM (rule "list.sort.descending-run")
 let c <-zeo lo (n+1) m
 match c.fst with
 |some r=>pure r
 |none=>
  if c.snd.snd > 0 then do
   reverseSlice' (lo+c.snd.fst-(c.snd.snd+1)) (lo+c.snd.fst)
   zb8 lo c.snd.fst m
  else zb8 lo c.snd.fst m
theorem zbi(lo m:Nat):countRun' lo m=(do
  let c <-zb7 lo 1 m
  match c.fst with
  |some r=>pure r
  |none=>
   if (c.snd == m)=true then pure (some c.snd)
   else if c.snd > 1 then do
    let o <-ltAt' lo (lo+c.snd-1)
    match o with
    |some rose=>if rose=true then pure (some c.snd) else do
      reverseSlice' lo (lo+c.snd)
      zf0 lo c.snd m
    |_=>pure none
   else zf0 lo c.snd m):=by
 rw[countRun'_eq];unfold zf0 zb8 zeo zb7;dsimp only;congr 1
 funext c
 obtain⟨r,n⟩:=c
 cases r with
 |some r=>rfl
 |none=>
  dsimp only
  split
  ·rfl
  ·split
   ·congr 1
    funext x
    cases x with
    |none=>rfl
    |some rose=>
     dsimp only
     split
     ·rfl
     ·congr 1
      funext _
      congr 1;funext _;congr 1;congr 1;funext c2;obtain⟨r2,n2,q2⟩:=c2;cases r2 with
      |some r2=>rfl
      |none=>
       dsimp only
       split
       ·congr 1;funext _;congr 1;funext _;congr 1;funext c3;obtain⟨r3,n3⟩:=c3;cases r3 <;> rfl
       ·congr 1;funext _;congr 1;funext c3;obtain⟨r3,n3⟩:=c3;cases r3 <;> rfl
   ·congr 1;funext _;congr 1;congr 1;funext c2;obtain⟨r2,n2,q2⟩:=c2;cases r2 with
    |some r2=>rfl
    |none=>
     dsimp only
     split
     ·congr 1;funext _;congr 1;funext _;congr 1;funext c3;obtain⟨r3,n3⟩:=c3;cases r3 <;> rfl
     ·congr 1;funext _;congr 1;funext c3;obtain⟨r3,n3⟩:=c3;cases r3 <;> rfl
end
end SQ
namespace SQ
open PySem PyProof.Rows
set_option autoImplicit false
section
variable {prog:Program}{w:World}{A:Around}{E:Value->Shared->Prop}{s:Shared}{κ:KeyKind}{kd:SortKind}{a₀:Array Keyed}
theorem Up.next{xs:Array Keyed}{lo n:Nat}(h:Up κ xs lo n)(h1:1<=n)(c:κ.blt (KK κ xs (lo+n)) (KK κ xs (lo+n-1))=false):Up κ xs lo (n+1):=λi j a b d=>by
 by_cases e:j<lo+n
 ·exact h i j a b e
 ·have ej:j=lo+n:=by lia
  subst ej
  by_cases e2:i=lo+n
  ·subst e2;exact KeyOrd.kle_refl _
  ·exact KeyOrd.kle_trans (h i (lo+n-1) a (by lia) (by (clear a b d e;omega))) c
theorem zu6{st:SortSt}{lo a m:Nat}{Q:Option (Option Nat)×Nat->SortSt->Prop}(L:vz prog w A s κ kd)(h0:KeysOf κ a₀)(g:SG kd a₀ st)(hm:lo+m<=a₀.size)(ha:1<=a)(hu:Up κ (arrOf st) lo a)(ham:a<=m)
  (q:∀n,a<=n->n<=m->Up κ (arrOf st) lo n->(n=m\/κ.klt (KK κ (arrOf st) (lo+n)) (KK κ (arrOf st) (lo+n-1)))->Q (none,n) st):wpS (model prog w) A E s (zb7 lo a m) Q st:=by
 unfold zb7;refine wpS_forRange (I:=λx c st'=>st'=st/\c=(none,x)/\Up κ (arrOf st) lo x) (λx c st' hx1 hx2 h=>?_) (λc st' h=>?_) ⟨rfl,rfl,hu⟩
 ·obtain⟨rfl,rfl,hx⟩:=h;dsimp only;refine wpS_bind (zb6 L g h0 (by lia) (by lia) ?_)
  cases cb:κ.blt (KK κ (arrOf st') (lo+x)) (KK κ (arrOf st') (lo+x-1)) with
  |true=>exact wpS_pure (q x hx1 (by (clear hm ha ham hx1;lia)) hx (.inr cb))
  |false=>exact wpS_pure ⟨rfl,rfl,hx.next (by (clear hm ham;lia)) cb⟩
 ·obtain⟨rfl,rfl,hx⟩:=h;rw[show max a m=m by lia]at hx ⊢;exact q m ham (Nat.le_refl _) hx (.inl rfl)
theorem zqy{st st0:SortSt}{lo n m:Nat}{Q:Option Nat->SortSt->Prop}(L:vz prog w A s κ kd)(h0:KeysOf κ a₀)(g:SG kd a₀ st)(hm:lo+m<=a₀.size)(h1:1<=n)(hnm:n<=m)(hd:Dn κ (arrOf st) lo n)(mv:Mv lo (lo+m) st0 st)
  (q:∀k st',SG kd a₀ st'->Mv lo (lo+m) st0 st'->1<=k->k<=m->Up κ (arrOf st') lo k->Q (some k) st'):wpS (model prog w) A E s (zb8 lo n m) Q st:=by
 unfold zb8;have sz:lo+n<=(arrOf st).size:=by rw[g.sz];lia
 refine wpS_bind (zjb ?_);have g':=g.arr (mirror_perm (arrOf st) lo (lo+n) ((lo+n-lo) / 2));refine wpS_bind (zu6 L h0 g' hm h1 (λi j a b c=>?_) hnm λk k1 k2 hk _=>wpS_pure (q k _ g' (mv.trans (kl sz (Nat.le_refl _) (by lia))) (by (clear sz;lia)) k2 hk));show κ.kle (KK κ (mirror (arrOf st) lo (lo+n) ((lo+n-lo) / 2)) i) (KK κ (mirror (arrOf st) lo (lo+n) ((lo+n-lo) / 2)) j);rw[KK_mirror sz,KK_mirror sz,if_pos (by (clear hm h1 hnm sz;lia)),if_pos (by (clear hm hnm sz;lia))];exact hd _ _ (by (clear hm h1 hnm sz a b;omega)) (by (clear hm hnm sz a;omega)) (by (clear hm h1 hnm sz;omega))
theorem Dn.next{xs:Array Keyed}{lo n:Nat}(h:Dn κ xs lo n)(h1:1<=n)(c:κ.kle (KK κ xs (lo+n)) (KK κ xs (lo+n-1))):Dn κ xs lo (n+1):=λi j a b d=>by
 by_cases e:j<lo+n
 ·exact h i j a b e
 ·have ej:j=lo+n:=by lia
  subst ej
  by_cases e2:i=lo+n
  ·subst e2;exact KeyOrd.kle_refl _
  ·exact KeyOrd.kle_trans c (h i (lo+n-1) a (by lia) (by lia))
theorem zep{xs:Array Keyed}{i j:Nat}(hj:j<=xs.size)(he:∀k,i<=k->k<j->KK κ xs k=KK κ xs (j-1))(k:Nat):KK κ (mirror xs i j ((j-i) / 2)) k=KK κ xs k:=KK_mirror_equal hj he k
theorem zwd{st:SortSt}{lo n m:Nat}{Q:Option (Option Nat)×Nat×Nat->SortSt->Prop}(L:vz prog w A s κ kd)(h0:KeysOf κ a₀)(g:SG kd a₀ st)(hm:lo+m<=a₀.size)(h1:1<=n)(hnm:n<=m)(hd:Dn κ (arrOf st) lo n)
  (q:∀k e st',SG kd a₀ st'->Mv lo (lo+m) st st'->n<=k->k<=m->Dn κ (arrOf st') lo k->e+1<=k->(∀i,lo+k-(e+1)<=i->i<lo+k->KK κ (arrOf st') i=KK κ (arrOf st') (lo+k-1))->Q (none,k,e) st'):wpS (model prog w) A E s (zeo lo n m) Q st:=by
 unfold zeo;refine wpS_forRange (I:=λx c st'=>∃e,c=(none,x,e)/\SG kd a₀ st'/\Mv lo (lo+m) st st'/\Dn κ (arrOf st') lo x/\e+1<=x/\(∀i,lo+x-(e+1)<=i->i<lo+x->KK κ (arrOf st') i=KK κ (arrOf st') (lo+x-1))) (λx c st' hx1 hx2 h=>?_) (λc st' h=>?_) ⟨0,rfl,g,Mv.refl _ _ _,hd,by omega,λi a b=>by rw[show i=lo+n-1 by (clear hm hnm;lia)]⟩
 ·obtain⟨e,rfl,g',mv,hx,he,heq⟩:=h;dsimp only;refine wpS_bind (zb6 L g' h0 (by lia) (by lia) ?_)
  cases cb:κ.blt (KK κ (arrOf st') (lo+x)) (KK κ (arrOf st') (lo+x-1)) with
  |true=>
   dsimp only;rw[if_pos rfl]
   by_cases ce:e > 0
   ·rw[if_pos ce];refine wpS_bind (zjb (wpS_pure ?_));have sz:lo+x<=(arrOf st').size:=by rw[g'.sz];lia
    have kf:=zep (κ:=κ) (xs:=arrOf st') (i:=lo+x-(e+1)) (j:=lo+x) sz heq;refine⟨0,rfl,g'.arr (mirror_perm _ _ _ _),mv.trans (kl sz (by (clear hm h1 hnm hx1 hx2 sz;omega)) (by lia)),?_,by (clear hm h1 hnm sz;lia),λi a b=>by rw[show i=lo+(x+1)-1 by (clear hm hnm hx2;lia)]⟩;refine Dn.next (λi j a b d=>?_) (by (clear hm h1 hnm hx1 hx2 sz;lia)) ?_
    ·show κ.kle (KK κ (mirror _ _ _ _) j) (KK κ (mirror _ _ _ _) i);rw[kf,kf];exact hx i j a b d
    ·show κ.kle (KK κ (mirror _ _ _ _) _) (KK κ (mirror _ _ _ _) _);rw[kf,kf];exact KeyOrd.kle_of_klt cb
   ·rw[if_neg ce];exact wpS_pure ⟨0,rfl,g',mv,hx.next (by (clear hm h1 hnm hx1 hx2;lia)) (KeyOrd.kle_of_klt cb),by (clear hm h1 hnm;lia),λi a b=>by rw[show i=lo+(x+1)-1 by (clear hm hnm hx2;lia)]⟩
  |false=>
   dsimp only;rw[if_neg (by decide)];refine wpS_bind (zb6 L g' h0 (by lia) (by lia) ?_)
   cases cc:κ.blt (KK κ (arrOf st') (lo+x-1)) (KK κ (arrOf st') (lo+x)) with
   |true=>exact wpS_pure (q x e st' g' mv hx1 (by (clear hm h1 hnm hx1;lia)) hx he heq)
   |false=>
    have same:KK κ (arrOf st') (lo+x)=KK κ (arrOf st') (lo+x-1):=KeyOrd.kle_antisymm cc cb;refine wpS_pure ⟨e+1,rfl,g',mv,hx.next (by (clear hm h1 hnm hx1 hx2;lia)) cc,by (clear hm h1 hnm hx1 hx2;lia),λi a b=>?_⟩;rw[show lo+(x+1)-1=lo+x by lia]
    by_cases ei:i=lo+x
    ·rw[ei]
    ·rw[heq i (by (clear hm h1 hnm hx1 hx2;lia)) (by (clear hm h1 hnm hx1 hx2 he a;lia)),same]
 ·obtain⟨e,rfl,g',mv,hx,he,heq⟩:=h;rw[show max n m=m by lia]at *;exact q m e st' g' mv hnm (Nat.le_refl _) hx he heq
theorem zjc{st st0:SortSt}{lo n m:Nat}{Q:Option Nat->SortSt->Prop}(L:vz prog w A s κ kd)(h0:KeysOf κ a₀)(g:SG kd a₀ st)(hm:lo+m<=a₀.size)(h1:1<=n)(hnm:n+1<=m)(hd:Dn κ (arrOf st) lo (n+1))(mv:Mv lo (lo+m) st0 st)
  (q:∀k st',SG kd a₀ st'->Mv lo (lo+m) st0 st'->1<=k->k<=m->Up κ (arrOf st') lo k->Q (some k) st'):wpS (model prog w) A E s (zf0 lo n m) Q st:=by
 unfold zf0;refine wpS_bind (wpS_lift (wpAny_rule ⟨rfl,?_⟩));refine wpS_bind (zwd L h0 g hm (by (clear hm;lia)) hnm hd λk e st' g' mv' k1 k2 hk he heq=>?_);dsimp only
 by_cases ce:e > 0
 ·rw[if_pos ce];have sz:lo+k<=(arrOf st').size:=by rw[g'.sz];lia
  have kf:=zep (κ:=κ) (xs:=arrOf st') (i:=lo+k-(e+1)) (j:=lo+k) sz heq;refine wpS_bind (zjb (zqy L h0 (g'.arr (mirror_perm _ _ _ _)) hm (by (clear hm h1 hnm k1 k2 sz;omega)) k2 (λi j a b d=>?_) ((mv.trans mv').trans (kl sz (by (clear hm h1 hnm k1 k2 sz;omega)) (by (clear hm h1 hnm k1 he ce sz;lia)))) q));show κ.kle (KK κ (mirror _ _ _ _) j) (KK κ (mirror _ _ _ _) i);rw[kf,kf];exact hk i j a b d
 ·rw[if_neg ce];exact zqy L h0 g' hm (by lia) k2 hk (mv.trans mv') q
theorem zhw{st:SortSt}{lo m:Nat}{Q:Option Nat->SortSt->Prop}(L:vz prog w A s κ kd)(h0:KeysOf κ a₀)(g:SG kd a₀ st)(hm:lo+m<=a₀.size)(h1:1<=m)
  (q:∀k st',SG kd a₀ st'->Mv lo (lo+m) st st'->1<=k->k<=m->Up κ (arrOf st') lo k->Q (some k) st'):wpS (model prog w) A E s (countRun' lo m) Q st:=by
 rw[zbi];refine wpS_bind (zu6 L h0 g hm (Nat.le_refl _) (λi j a b c=>by rw[show i=j by (clear hm h1;lia)];exact KeyOrd.kle_refl _) h1 λn n1 n2 hn hz=>?_);dsimp only
 by_cases e:n=m
 ·rw[if_pos (by simpa using e)];exact wpS_pure (q n st g (Mv.refl _ _ _) n1 n2 hn)
 ·rw[if_neg (by simpa using e)];have down:=hz.resolve_left e
  by_cases e1:n > 1
  ·rw[if_pos e1];refine wpS_bind (zb6 L g h0 (by lia) (by lia) ?_)
   cases cb:κ.blt (KK κ (arrOf st) lo) (KK κ (arrOf st) (lo+n-1)) with
   |true=>exact wpS_pure (q n st g (Mv.refl _ _ _) n1 n2 hn)
   |false=>
    dsimp only;rw[if_neg (by decide)];have all:∀k,lo<=k->k<lo+n->KK κ (arrOf st) k=KK κ (arrOf st) (lo+n-1):=λk a b=>
     KeyOrd.kle_antisymm (hn k (lo+n-1) a (by (clear hm h1 n2 a;omega)) (by lia)) (KeyOrd.kle_trans cb (hn lo k (Nat.le_refl _) a b))
    have sz:lo+n<=(arrOf st).size:=by rw[g.sz];lia
    have kf:=zep (κ:=κ) (xs:=arrOf st) (i:=lo) (j:=lo+n) sz all;refine wpS_bind (zjb (zjc L h0 (g.arr (mirror_perm _ _ _ _)) hm n1 (by (clear hm sz;lia)) (Dn.next (λi j a b d=>?_) n1 ?_) (kl sz (Nat.le_refl _) (by lia)) q))
    ·show κ.kle (KK κ (mirror _ _ _ _) j) (KK κ (mirror _ _ _ _) i);rw[kf,kf,all j (by (clear hm h1 n1 n2 e1 sz d;lia)) d,all i a (by (clear hm h1 n1 n2 e1 sz;lia))];exact KeyOrd.kle_refl _
    ·show κ.kle (KK κ (mirror _ _ _ _) _) (KK κ (mirror _ _ _ _) _);rw[kf,kf];exact KeyOrd.kle_of_klt down
  ·rw[if_neg e1];refine zjc L h0 g hm n1 (by lia) (Dn.next (λi j a b d=>by rw[show i=j by (clear hm h1 n2;lia)];exact KeyOrd.kle_refl _) n1 (KeyOrd.kle_of_klt down)) (Mv.refl _ _ _) q
theorem zmy{st:SortSt}{lo n ok:Nat}{Q:Bool->SortSt->Prop}(L:vz prog w A s κ kd)(h0:KeysOf κ a₀)(g:SG kd a₀ st)(hn:lo+n<=a₀.size)(hok:ok<=n)(hu:Up κ (arrOf st) lo ok)
  (q:∀st',SG kd a₀ st'->Mv lo (lo+n) st st'->Up κ (arrOf st') lo n->Q true st'):wpS (model prog w) A E s (binarySort' lo n ok) Q st:=by
 rw[binarySort'_eq];refine wpS_bind (wpS_mono (wpS_forRange (I:=λk c st'=>c=(none,())/\SG kd a₀ st'/\Mv lo (lo+n) st st'/\Up κ (arrOf st') lo (min k n))
  (Q:=λc st'=>c=(none,())/\SG kd a₀ st'/\Mv lo (lo+n) st st'/\Up κ (arrOf st') lo n) (λk c st' hk1 hk2 h=>?_) (λc st' h=>?_) ⟨rfl,g,Mv.refl _ _ _,λi j a b d=>?_⟩) (λc st' h=>?_))
 ·obtain⟨rfl,g',mv,hs⟩:=h;rw[show min k n=k by (clear hn hok hk1;lia)]at hs
  refine wpS_bind (wpS_mono (wpS_forRange (I:=λx c z=>z=st'/\∃l r,c=(none,l,r)/\l<=r/\r<=k/\r-l<=k-x/\(∀i,lo<=i->i<lo+l->κ.kle (KK κ (arrOf st') i) (KK κ (arrOf st') (lo+k)))/\(∀i,lo+r<=i->i<lo+k->κ.klt (KK κ (arrOf st') (lo+k)) (KK κ (arrOf st') i)))
   (Q:=λc z=>z=st'/\∃l r,c=(none,l,r)/\l<=k/\(∀i,lo<=i->i<lo+l->κ.kle (KK κ (arrOf st') i) (KK κ (arrOf st') (lo+k)))/\(∀i,lo+l<=i->i<lo+k->κ.klt (KK κ (arrOf st') (lo+k)) (KK κ (arrOf st') i)))
   (λx c z hx1 hx2 h=>?_) (λc z h=>?_) ⟨rfl,0,k,rfl,by (clear hn hok hk1 hk2;lia),by (clear hn hok hk1 hk2;lia),by (clear hn hok hk1 hk2;lia),λi a b=>by (clear hn hok hk1 hk2;lia),λi a b=>by (clear hn hok hk1 hk2;lia)⟩) (λc z h=>?_))
  ·obtain⟨rfl,l,r,rfl,p1,p2,p3,p4,p5⟩:=h;dsimp only
   by_cases e:l ≥ r
   ·rw[if_pos e];have:l=r:=by (clear hn hok hk1 hk2 hx1 hx2 p3;lia)
    subst this;exact wpS_pure ⟨rfl,l,l,rfl,p2,p4,p5⟩
   ·rw[if_neg e];refine wpS_bind (zb6 L g' h0 (by (clear hok hk1 p1 p3;lia)) (by (clear hok hk1 hx1 hx2 p3;lia)) ?_)
    cases cb:κ.blt (KK κ (arrOf z) (lo+k)) (KK κ (arrOf z) (lo+(l+r) / 2)) with
    |true=>exact wpS_pure ⟨rfl,l,(l+r) / 2,rfl,by (clear hn hok hk1 hk2 hx1 hx2 p2 p3;lia),by (clear hn hok hk1 hk2 hx1 hx2 p3;lia),by (clear hn hok hk1 hk2 p1 p2;omega),p4,λi a b=>KeyOrd.klt_of_klt_of_kle cb (hs _ _ (by (clear hn hok hk1 hk2 hx1 hx2 p1 p2 p3 e a b;lia)) a (by omega))⟩
    |false=>exact wpS_pure ⟨rfl,(l+r) / 2+1,r,rfl,by (clear hn hok hk1 hk2 hx1 hx2 p2 p3;lia),by omega,by (clear hn hok hk1 hk2;omega),λi a b=>KeyOrd.kle_trans (hs i (lo+(l+r) / 2) a (by (clear hn hok hk1 hk2 hx1 hx2 p1 p2 p3 e;lia)) (by (clear hn hok hk1 hk2 hx1 hx2 p3 a;lia))) cb,p5⟩
  ·obtain⟨rfl,l,r,rfl,p1,p2,p3,p4,p5⟩:=h;have:l=r:=by (clear hn hok hk1 hk2 p2;lia)
   subst this;exact⟨rfl,l,l,rfl,p2,p4,p5⟩
  ·obtain⟨rfl,l,r,rfl,p2,p4,p5⟩:=h;show wpS _ _ _ _ (do moveDown' (lo+k) (lo+l);pure (ForInStep.yield (none,()))) _ _;rw[moveDown'_eq];have sz:lo+k<(arrOf z).size:=by rw[g'.sz];lia
   refine wpS_bind (wpS_modify (wpS_pure ⟨rfl,g'.arr (bubble_perm _ _ _),mv.trans ⟨λi hi=>?_,rfl⟩,?_⟩))
   ·show(bubble (arrOf z) (lo+k) (lo+k-(lo+l)))[i]?=_;rw[getElem?_bubble sz _ (by (clear hn hok hk1 hk2 sz;omega)),if_neg (by omega),if_neg (by (clear hok hk1 sz;lia))]
   ·rw[show min (k+1) n=k+1 by (clear hn hok p2 sz;lia)];intro i j a b d;show κ.kle (KK κ (bubble (arrOf z) (lo+k) (lo+k-(lo+l))) i) (KK κ (bubble (arrOf z) (lo+k) (lo+k-(lo+l))) j);rw[KK_bubble sz (by (clear hn hok hk1 hk2 sz b d;omega)),KK_bubble sz (by omega),show lo+k-(lo+k-(lo+l))=lo+l by lia]
    repeat' split
    all_goals first
     |(exfalso;(clear hn hok hk1 hk2 p2 sz a;lia))
     |exact KeyOrd.kle_refl _
     |exact p4 _ (by omega) (by (clear hn hok hk1 hk2 sz;lia))
     |exact KeyOrd.kle_of_klt (p5 _ (by (clear hn hok hk1 hk2 p2 sz b d;omega)) (by (clear hn hok hk1 hk2 sz a b;omega)))
     |exact hs _ _ (by omega) (by lia) (by omega)
 ·obtain⟨h1,h2,h3,h4⟩:=h;rw[show min (max (max ok 1) n) n=n by lia]at h4;exact⟨h1,h2,h3,h4⟩
 ·by_cases e:ok=0
  ·rw[show i=j by lia];exact KeyOrd.kle_refl _
  ·exact hu i j a b (by (clear hn a b;lia))
 ·obtain⟨rfl,h2,h3,h4⟩:=h;exact wpS_pure (q st' h2 h3 h4)
end
end SQ
namespace SQ
open PySem PyProof.Rows
set_option autoImplicit false
def zpp:Bool->Keyed->Array Keyed->Nat->Nat->Nat->StateT SortSt Sem (Option Nat):=sortPriv% PySem.Builtin.gallop
abbrev zs4(κ:KeyKind)(arr:Array Keyed)(base n:Nat):Prop:=∀i,i<n->∃p,arr[base+i]?=some p/\κ.keyOf p.1=some (KK κ arr (base+i))
def byd(κ:KeyKind)(left:Bool)(k:κ.α)(arr:Array Keyed)(base i:Nat):Bool:=if left=true then κ.blt (KK κ arr (base+i)) k else !κ.blt k (KK κ arr (base+i))
section
variable {prog:Program}{w:World}{A:Around}{E:Value->Shared->Prop}{s:Shared}{κ:KeyKind}{kd:SortKind}
theorem zf1{st:SortSt}{left:Bool}{key:Keyed}{k:κ.α}{arr:Array Keyed}{base n i:Nat}{Q:Option Bool->SortSt->Prop}(L:vz prog w A s κ kd)(hk:kindOf st=kd)(hy:zs4 κ arr base n)(kk:κ.keyOf key.1=some k)(hi:i<n)(q:Q (some (byd κ left k arr base i)) st):
  wpS (model prog w) A E s (do
   let x <-elem' arr (base+i)
   if left=true then lt' x key
   else do
    let r <-lt' key x
    pure (Option.map (λx=>!x) r)) Q st:=by
 obtain⟨p,e,kp⟩:=hy i hi;refine wpS_bind (yt e ?_);unfold byd at q
 cases left with
 |true=>exact zmx L hk kp kk q
 |false=>exact wpS_bind (zmx L hk kk kp (wpS_pure q))
theorem wx{st:SortSt}{left:Bool}{key:Keyed}{k:κ.α}{arr:Array Keyed}{base n hint:Nat}{Q:Option Nat->SortSt->Prop}(L:vz prog w A s κ kd)(hk:kindOf st=kd)(hy:zs4 κ arr base n)(kk:κ.keyOf key.1=some k)(hh:hint<n)
  (mono:∀i j,i<=j->j<n->byd κ left k arr base j=true->byd κ left k arr base i=true)
  (q:∀m,m<=n->(∀i,i<m->byd κ left k arr base i=true)->(∀i,m<=i->i<n->byd κ left k arr base i=false)->Q (some m) st):wpS (model prog w) A E s (zpp left key arr base n hint) Q st:=by
 have cut:∀i j,i<=j->j<n->byd κ left k arr base i=false->byd κ left k arr base j=false:=λi j a b c=>by
  cases e:byd κ left k arr base j with
  |false=>rfl
  |true=>rw[mono i j a b e]at c;cases c
 refine wpS_bind ?_;refine zf1 L hk hy kk hh ?_;dsimp only
 cases c0:byd κ left k arr base hint with
 |true=>
  rw[if_pos rfl];refine wpS_bind (wpS_mono (wpS_forRange (I:=λx c z=>st=z/\∃l o,c=(none,l,o)/\l<o/\x<o/\hint+l<n/\byd κ left k arr base (hint+l)=true)
   (Q:=λc z=>st=z/\∃l o,c=(none,l,o)/\l<o/\hint+l<n/\byd κ left k arr base (hint+l)=true/\(n-hint<=o\/byd κ left k arr base (hint+o)=false))
   (λx c z hx1 hx2 h=>?_) (λc z h=>?_) ⟨rfl,0,1,rfl,by lia,by lia,by omega,c0⟩) (λc z h=>?_))
  ·obtain⟨rfl,l,o,rfl,p1,p2,p3,p4⟩:=h;dsimp only
   by_cases e:o ≥ n-hint
   ·rw[if_pos e];exact wpS_pure ⟨rfl,l,o,rfl,p1,p3,p4,.inl e⟩
   ·rw[if_neg e];refine wpS_bind (zf1 L hk hy kk (by lia) ?_)
    cases cb:byd κ left k arr base (hint+o) with
    |true=>exact wpS_pure ⟨rfl,o,2 * o+1,rfl,by (clear hh hx1 hx2 p3 e;lia),by (clear hh hx2 p3 e;lia),by omega,cb⟩
    |false=>exact wpS_pure ⟨rfl,l,o,rfl,p1,p3,p4,.inr cb⟩
  ·obtain⟨rfl,l,o,rfl,p1,p2,p3,p4⟩:=h;exact⟨rfl,l,o,rfl,p1,p3,p4,.inl (by lia)⟩
  ·obtain⟨rfl,l,o,rfl,p1,p3,p4,p5⟩:=h;have h1:hint+l+1<=hint+min o (n-hint):=by lia
   have h2:hint+min o (n-hint)<=n:=by lia
   have h3:∀i,i<hint+l+1->byd κ left k arr base i=true:=λi hi=>mono i _ (by (clear hh p1 p3 h1 h2;lia)) p3 p4;have h4:∀i,hint+min o (n-hint)<=i->i<n->byd κ left k arr base i=false:=λi a b=>by
    rcases p5 with p5|p5
    ·omega
    ·exact cut (hint+o) i (by omega) b p5
   dsimp only;refine wpS_bind (wpS_mono (wpS_forRange (I:=λx c z=>st=z/\∃l r,c=(none,l,r)/\l<=r/\r<=n/\r-l<=n-x/\(∀i,i<l->byd κ left k arr base i=true)/\(∀i,r<=i->i<n->byd κ left k arr base i=false))
    (Q:=λc z=>st=z/\∃l r,c=(none,l,r)/\r<=l/\l<=r/\r<=n/\(∀i,i<l->byd κ left k arr base i=true)/\(∀i,r<=i->i<n->byd κ left k arr base i=false))
    (λx c z hx1 hx2 h=>?_) (λc z h=>?_) ⟨rfl,_,_,rfl,h1,h2,by omega,h3,h4⟩) (λc z h=>?_))
   ·obtain⟨rfl,l,r,rfl,p1,p2,p3,p4,p5⟩:=h;dsimp only
    by_cases e:l ≥ r
    ·rw[if_pos e];exact wpS_pure ⟨rfl,l,r,rfl,e,p1,p2,p4,p5⟩
    ·rw[if_neg e];refine wpS_bind (zf1 L hk hy kk (by (clear h1 h2;lia)) ?_)
     cases cb:byd κ left k arr base (l+(r-l) / 2) with
     |true=>exact wpS_pure ⟨rfl,_,_,rfl,by lia,by omega,by omega,λi hi=>mono i _ (by (clear h1 h2 hx1 hx2 p1 p2 p3 e;lia)) (by (clear h1 h2 hi;omega)) cb,p5⟩
     |false=>exact wpS_pure ⟨rfl,_,_,rfl,by (clear h1 h2 hx1 hx2 p1 p2 e;lia),by (clear h1 h2 hx1 hx2;lia),by omega,p4,λi a b=>cut _ i a b cb⟩
   ·obtain⟨rfl,l,r,rfl,p1,p2,p3,p4,p5⟩:=h;exact⟨rfl,l,r,rfl,by (clear h1 h2;lia),p1,p2,p4,p5⟩
   ·obtain⟨rfl,l,r,rfl,p0,p1,p2,p4,p5⟩:=h;have:l=r:=by (clear hh p3 h1 h2;lia)
    subst this;exact wpS_pure (q l p2 p4 p5)
 |false=>
  rw[if_neg (by decide)];refine wpS_bind (wpS_mono (wpS_forRange (I:=λx c z=>st=z/\∃l o,c=(none,l,o)/\l<o/\x<o/\l<=hint/\byd κ left k arr base (hint-l)=false)
   (Q:=λc z=>st=z/\∃l o,c=(none,l,o)/\l<o/\l<=hint/\byd κ left k arr base (hint-l)=false/\(hint+1<=o\/byd κ left k arr base (hint-o)=true))
   (λx c z hx1 hx2 h=>?_) (λc z h=>?_) ⟨rfl,0,1,rfl,by lia,by lia,by lia,c0⟩) (λc z h=>?_))
  ·obtain⟨rfl,l,o,rfl,p1,p2,p3,p4⟩:=h;dsimp only
   by_cases e:o ≥ hint+1
   ·rw[if_pos e];exact wpS_pure ⟨rfl,l,o,rfl,p1,p3,p4,.inl e⟩
   ·rw[if_neg e];refine wpS_bind (zf1 L hk hy kk (by omega) ?_)
    cases cb:byd κ left k arr base (hint-o) with
    |true=>exact wpS_pure ⟨rfl,l,o,rfl,p1,p3,p4,.inr cb⟩
    |false=>exact wpS_pure ⟨rfl,o,2 * o+1,rfl,by lia,by lia,by lia,cb⟩
  ·obtain⟨rfl,l,o,rfl,p1,p2,p3,p4⟩:=h;exact⟨rfl,l,o,rfl,p1,p3,p4,.inl (by lia)⟩
  ·obtain⟨rfl,l,o,rfl,p1,p3,p4,p5⟩:=h;have h1:hint+1-min o (hint+1)<=hint-l:=by (clear hh;omega)
   have h2:hint-l<=n:=by (clear p1 h1;omega)
   have h3:∀i,i<hint+1-min o (hint+1)->byd κ left k arr base i=true:=λi hi=>by
    rcases p5 with p5|p5
    ·(clear hh p1 p3 h1 h2;omega)
    ·exact mono i (hint-o) (by omega) (by (clear p3 h1 hi;omega)) p5
   have h4:∀i,hint-l<=i->i<n->byd κ left k arr base i=false:=λi a b=>cut (hint-l) i a b p4;dsimp only;refine wpS_bind (wpS_mono (wpS_forRange (I:=λx c z=>st=z/\∃l r,c=(none,l,r)/\l<=r/\r<=n/\r-l<=n-x/\(∀i,i<l->byd κ left k arr base i=true)/\(∀i,r<=i->i<n->byd κ left k arr base i=false))
    (Q:=λc z=>st=z/\∃l r,c=(none,l,r)/\r<=l/\l<=r/\r<=n/\(∀i,i<l->byd κ left k arr base i=true)/\(∀i,r<=i->i<n->byd κ left k arr base i=false))
    (λx c z hx1 hx2 h=>?_) (λc z h=>?_) ⟨rfl,_,_,rfl,h1,h2,by (clear p1 p3 h1 h2;omega),h3,h4⟩) (λc z h=>?_))
   ·obtain⟨rfl,l,r,rfl,p1,p2,p3,p4,p5⟩:=h;dsimp only
    by_cases e:l ≥ r
    ·rw[if_pos e];exact wpS_pure ⟨rfl,l,r,rfl,e,p1,p2,p4,p5⟩
    ·rw[if_neg e];refine wpS_bind (zf1 L hk hy kk (by omega) ?_)
     cases cb:byd κ left k arr base (l+(r-l) / 2) with
     |true=>exact wpS_pure ⟨rfl,_,_,rfl,by omega,by omega,by omega,λi hi=>mono i _ (by lia) (by lia) cb,p5⟩
     |false=>exact wpS_pure ⟨rfl,_,_,rfl,by lia,by omega,by omega,p4,λi a b=>cut _ i a b cb⟩
   ·obtain⟨rfl,l,r,rfl,p1,p2,p3,p4,p5⟩:=h;exact⟨rfl,l,r,rfl,by omega,p1,p2,p4,p5⟩
   ·obtain⟨rfl,l,r,rfl,p0,p1,p2,p4,p5⟩:=h;have:l=r:=by lia
    subst this;exact wpS_pure (q l p2 p4 p5)
end
end SQ
namespace SQ
open PySem PyProof.Rows
set_option autoImplicit false
def zmz:Array Keyed->Array Keyed->StateT SortSt Sem (Array Keyed):=sortPriv% PySem.Builtin.mergeLo
def zm0:Array Keyed->Array Keyed->StateT SortSt Sem (Array Keyed):=sortPriv% PySem.Builtin.mergeHi
def zpq:Nat->StateT SortSt Sem Unit:=sortPriv% PySem.Builtin.setMinGallop
def kk(κ:KeyKind)(p:Keyed):κ.α:=(κ.keyOf p.1).getD κ.dflt
def le(κ:KeyKind)(x y:Keyed):Prop:=κ.kle (kk κ x) (kk κ y)
theorem wb{κ:KeyKind}{xs:Array Keyed}{i:Nat}{p:Keyed}(e:xs[i]?=some p):KK κ xs i=kk κ p:=by unfold KK kk;rw[e]
theorem le_refl{κ:KeyKind}(x:Keyed):le κ x x:=KeyOrd.kle_refl _
theorem le_trans{κ:KeyKind}{x y z:Keyed}(a:le κ x y)(b:le κ y z):le κ x z:=KeyOrd.kle_trans a b
def AllK(κ:KeyKind)(xs:Array Keyed):Prop:=∀p∈xs.toList,κ.keyOf p.1=some (kk κ p)
theorem AllK.ky{κ:KeyKind}{xs:Array Keyed}(h:AllK κ xs)(base n:Nat)(hb:base+n<=xs.size):zs4 κ xs base n:=λi hi=>by
 have l:base+i<xs.size:=by lia
 have e:xs[base+i]?=some (xs[base+i]'l):=Array.getElem?_eq_getElem l;exact⟨_,e,by rw[wb e];exact h _ (by simp)⟩
abbrev Srt(κ:KeyKind)(xs:Array Keyed):Prop:=xs.toList.Pairwise (le κ)
theorem Srt.at{κ:KeyKind}{xs:Array Keyed}(h:Srt κ xs){i j:Nat}{p r:Keyed}(hij:i<=j)(e1:xs[i]?=some p)(e2:xs[j]?=some r):le κ p r:=by
 obtain⟨l1,rfl⟩:=Array.getElem?_eq_some_iff.mp e1;obtain⟨l2,rfl⟩:=Array.getElem?_eq_some_iff.mp e2
 by_cases c:i=j
 ·subst c;exact le_refl _
 ·have:=List.pairwise_iff_getElem.mp h i j (by simpa using l1) (by simpa using l2) (by lia);simpa using this
structure MI(κ:KeyKind)(a b out:Array Keyed)(ia ib:Nat):Prop where
 perm:out.toList.Perm (a.toList.take ia++b.toList.take ib)
 sort:out.toList.Pairwise (le κ)
 la:∀x∈out.toList,∀y∈a.toList.drop ia,le κ x y
 lb:∀x∈out.toList,∀y∈b.toList.drop ib,le κ x y
theorem wy{α:Type}{xs:List α}{i:Nat}{p:α}(e:xs[i]?=some p):xs.take (i+1)=xs.take i ++ [p]:=by
 rw[List.take_add_one,e];rfl
theorem xj{α:Type}{xs:List α}{i:Nat}{p:α}(e:xs[i]?=some p):xs.drop i=p::xs.drop (i+1):=by
 obtain⟨l,rfl⟩:=List.getElem?_eq_some_iff.mp e;exact List.drop_eq_getElem_cons l
section
variable {κ:KeyKind}{a b out:Array Keyed}{ia ib:Nat}
theorem wz{xs:Array Keyed}{i:Nat}{p:Keyed}(e:xs[i]?=some p):xs.toList[i]?=some p:=by simpa using e
theorem Srt.rest{xs:Array Keyed}(h:Srt κ xs){i:Nat}{p:Keyed}(e:xs[i]?=some p):∀y∈xs.toList.drop i,le κ p y:=by
 have h2:=h.drop (i:=i);rw[xj (wz e)]at h2 ⊢;intro y hy;rcases List.mem_cons.mp hy with rfl|hy
 ·exact le_refl _
 ·exact(List.pairwise_cons.mp h2).1 y hy
theorem MI.pushB(m:MI κ a b out ia ib)(sb:Srt κ b){p:Keyed}(e:b[ib]?=some p)(h:∀y∈a.toList.drop ia,le κ p y):MI κ a b (out.push p) ia (ib+1) where
 perm:=by
  rw[Array.toList_push,wy (wz e),<-List.append_assoc];exact m.perm.append_right _
 sort:=by
  rw[Array.toList_push];refine List.pairwise_append.mpr ⟨m.sort,List.pairwise_singleton _ _,λx hx y hy=>?_⟩;rw[List.mem_singleton.mp hy];exact m.lb x hx p (by rw[xj (wz e)];exact List.mem_cons_self)
 la:=λx hx y hy=>by
  rw[Array.toList_push]at hx;rcases List.mem_append.mp hx with hx|hx
  ·exact m.la x hx y hy
  ·rw[List.mem_singleton.mp hx];exact h y hy
 lb:=λx hx y hy=>by
  rw[Array.toList_push]at hx;have hy':y∈b.toList.drop ib:=by rw[xj (wz e)];exact List.mem_cons_of_mem _ hy
  rcases List.mem_append.mp hx with hx|hx
  ·exact m.lb x hx y hy'
  ·rw[List.mem_singleton.mp hx];exact sb.rest e y hy'
theorem MI.pushA(m:MI κ a b out ia ib)(sa:Srt κ a){p:Keyed}(e:a[ia]?=some p)(h:∀y∈b.toList.drop ib,le κ p y):MI κ a b (out.push p) (ia+1) ib where
 perm:=by
  rw[Array.toList_push,wy (wz e),List.append_assoc];refine(m.perm.append_right _).trans ?_;rw[List.append_assoc];exact List.Perm.append_left _ List.perm_append_comm
 sort:=by
  rw[Array.toList_push];refine List.pairwise_append.mpr ⟨m.sort,List.pairwise_singleton _ _,λx hx y hy=>?_⟩;rw[List.mem_singleton.mp hy];exact m.la x hx p (by rw[xj (wz e)];exact List.mem_cons_self)
 lb:=λx hx y hy=>by
  rw[Array.toList_push]at hx;rcases List.mem_append.mp hx with hx|hx
  ·exact m.lb x hx y hy
  ·rw[List.mem_singleton.mp hx];exact h y hy
 la:=λx hx y hy=>by
  rw[Array.toList_push]at hx;have hy':y∈a.toList.drop ia:=by rw[xj (wz e)];exact List.mem_cons_of_mem _ hy
  rcases List.mem_append.mp hx with hx|hx
  ·exact m.la x hx y hy'
  ·rw[List.mem_singleton.mp hx];exact sa.rest e y hy'
theorem j8{xs:Array Keyed}{i k:Nat}{p:Keyed}(e:xs[i+k]?=some p):xs.extract i (i+(k+1))=(xs.extract i (i+k)).push p:=by
 obtain⟨l,rfl⟩:=Array.getElem?_eq_some_iff.mp e;apply Array.ext';rw[Array.toList_push,Array.toList_extract,Array.toList_extract];simp only[List.extract_eq_take_drop];rw[show i+(k+1)-i=k+1 by lia,show i+k-i=k by lia,List.take_add_one];congr 1;rw[List.getElem?_drop];simp[l]
theorem j9(xs:Array Keyed)(i:Nat):xs.extract i (i+0) = #[]:=by
 apply Array.ext';rw[Array.toList_extract,List.extract_eq_take_drop];simp
theorem MI.chunkA(m:MI κ a b out ia ib)(sa:Srt κ a):∀k:Nat,ia+k<=a.size->(∀i,i<k->∀p,a[ia+i]?=some p->∀y∈b.toList.drop ib,le κ p y)->MI κ a b (out++a.extract ia (ia+k)) (ia+k) ib
 |0,_,_=>by rw[j9,Array.append_empty];exact m
 |k+1,hk,h=>by
  have e:a[ia+k]?=some a[ia+k]:=getElem?_pos _ _ (by lia);have ih:=m.chunkA sa k (by lia) λi hi=>h i (by lia);rw[j8 e,Array.append_push];exact ih.pushA sa e (h k (by lia) _ e)
theorem MI.chunkB(m:MI κ a b out ia ib)(sb:Srt κ b):∀k:Nat,ib+k<=b.size->(∀i,i<k->∀p,b[ib+i]?=some p->∀y∈a.toList.drop ia,le κ p y)->MI κ a b (out++b.extract ib (ib+k)) ia (ib+k)
 |0,_,_=>by rw[j9,Array.append_empty];exact m
 |k+1,hk,h=>by
  have e:b[ib+k]?=some b[ib+k]:=getElem?_pos _ _ (by lia);have ih:=m.chunkB sb k (by lia) λi hi=>h i (by lia);rw[j8 e,Array.append_push];exact ih.pushB sb e (h k (by lia) _ e)
def Mg(κ:KeyKind)(a b r:Array Keyed):Prop:=r.toList.Perm (a.toList++b.toList)/\r.toList.Pairwise (le κ)
theorem xz(xs:Array Keyed)(i:Nat):(xs.extract i xs.size).toList=xs.toList.drop i:=by
 rw[Array.toList_extract,List.extract_eq_take_drop,List.take_of_length_le (by simp)]
theorem zf2{α:Type}{o x y u v:List α}(h:o.Perm (x++y)):(o++u++v).Perm ((x++u)++(y++v)):=by
 refine((h.append_right u).append_right v).trans ?_;rw[List.append_assoc,List.append_assoc,List.append_assoc x u];refine List.Perm.append_left x ?_;rw[<-List.append_assoc,<-List.append_assoc];exact List.Perm.append_right v List.perm_append_comm
theorem MI.fin(m:MI κ a b out ia ib)(sa:Srt κ a)(sb:Srt κ b)(h:a.size<=ia\/b.size<=ib):Mg κ a b (out++a.extract ia a.size++b.extract ib b.size):=by
 refine⟨?_,?_⟩
 ·rw[Array.toList_append,Array.toList_append,xz,xz];have:=zf2 (u:=a.toList.drop ia) (v:=b.toList.drop ib) m.perm
  rwa [List.take_append_drop,List.take_append_drop]at this
 ·rw[Array.toList_append,Array.toList_append,xz,xz];rcases h with h|h
  ·rw[List.drop_eq_nil_of_le (by simpa using h:a.toList.length<=ia),List.append_nil];exact List.pairwise_append.mpr ⟨m.sort,sb.drop,m.lb⟩
  ·rw[List.drop_eq_nil_of_le (by simpa using h:b.toList.length<=ib),List.append_nil];exact List.pairwise_append.mpr ⟨m.sort,sa.drop,m.la⟩
theorem MI.last(m:MI κ a b out ia ib)(sa:Srt κ a)(sb:Srt κ b)(h:∀x∈b.toList,∀y∈a.toList.drop ia,le κ x y):Mg κ a b (out++b.extract ib b.size++a.extract ia a.size):=by
 refine⟨?_,?_⟩
 ·rw[Array.toList_append,Array.toList_append,xz,xz];have:=zf2 (u:=b.toList.drop ib) (v:=a.toList.drop ia) (m.perm.trans List.perm_append_comm);rw[List.take_append_drop,List.take_append_drop]at this;exact this.trans List.perm_append_comm
 ·rw[Array.toList_append,Array.toList_append,xz,xz];refine List.pairwise_append.mpr ⟨List.pairwise_append.mpr ⟨m.sort,sb.drop,m.lb⟩,sa.drop,λx hx y hy=>?_⟩;rcases List.mem_append.mp hx with hx|hx
  ·exact m.la x hx y hy
  ·exact h x (List.mem_of_mem_drop hx) y hy
end
structure Gm(st st':SortSt):Prop where
 k:kindOf st'=kindOf st
 a:arrOf st'=arrOf st
 p:pendingOf st'=pendingOf st
 f:failedOf st'=failedOf st
theorem Gm.refl(st:SortSt):Gm st st:=⟨rfl,rfl,rfl,rfl⟩
theorem Gm.trans{x y z:SortSt}(h:Gm x y)(g:Gm y z):Gm x z:=⟨g.k.trans h.k,g.a.trans h.a,g.p.trans h.p,g.f.trans h.f⟩
section
variable {prog:Program}{w:World}{A:Around}{E:Value->Shared->Prop}{s:Shared}{κ:KeyKind}{kd:SortKind}
theorem h7{st:SortSt}{g:Nat}{Q:Unit->SortSt->Prop}(q:∀st',Gm st st'->Q () st'):wpS (model prog w) A E s (zpq g) Q st :=
 wpS_modify (f:=λs=>SortSt.mk' (kindOf s) (arrOf s) (pendingOf s) g (failedOf s)) (q _ ⟨rfl,rfl,rfl,rfl⟩)
end
end SQ
namespace SQ
open PySem PyProof.Rows
set_option autoImplicit false
section
variable {prog:Program}{w:World}{A:Around}{E:Value->Shared->Prop}{s:Shared}{κ:KeyKind}{kd:SortKind}
theorem zc3{xs:Array Keyed}{i:Nat}(h:i<xs.size):∃p,xs[i]?=some p/\p∈xs.toList:=⟨xs[i],Array.getElem?_eq_getElem h,by simp⟩
theorem zaa{arr:Array Keyed}{base i:Nat}{k:κ.α}{p:Keyed}(e:arr[base+i]?=some p):byd κ false k arr base i = !κ.blt k (kk κ p):=by unfold byd;rw[wb e];rfl
theorem zab{arr:Array Keyed}{base i:Nat}{k:κ.α}{p:Keyed}(e:arr[base+i]?=some p):byd κ true k arr base i=κ.blt (kk κ p) k:=by unfold byd;rw[wb e];rfl
theorem zm1{arr:Array Keyed}{base n:Nat}{k:κ.α}(sr:Srt κ arr)(hn:base+n<=arr.size):∀i j,i<=j->j<n->byd κ false k arr base j=true->byd κ false k arr base i=true:=λi j a b c=>by
 obtain⟨p,ep,_⟩:=zc3 (xs:=arr) (i:=base+i) (by lia);obtain⟨r,er,_⟩:=zc3 (xs:=arr) (i:=base+j) (by (clear a;lia));rw[zaa er]at c;rw[zaa ep];have l:=sr.at (by lia) ep er;have c':κ.kle (kk κ r) k:=by simpa[KeyOrd.kle]using c
 have:=KeyOrd.kle_trans l c';simpa[KeyOrd.kle]using this
theorem zm2{arr:Array Keyed}{base n:Nat}{k:κ.α}(sr:Srt κ arr)(hn:base+n<=arr.size):∀i j,i<=j->j<n->byd κ true k arr base j=true->byd κ true k arr base i=true:=λi j a b c=>by
 obtain⟨p,ep,_⟩:=zc3 (xs:=arr) (i:=base+i) (by lia);obtain⟨r,er,_⟩:=zc3 (xs:=arr) (i:=base+j) (by lia);rw[zab er]at c;rw[zab ep];exact KeyOrd.klt_of_kle_of_klt (sr.at (by lia) ep er) c
theorem zx{α:Type}{c:Prop}[Decidable c]{x y:StateT SortSt Sem α}{Q:α->SortSt->Prop}{st:SortSt}{M:Model}(h1:c->wpS M A E s x Q st)(h2:¬ c->wpS M A E s y Q st):wpS M A E s (if c then x else y) Q st:=by
 by_cases h:c
 ·rw[if_pos h];exact h1 h
 ·rw[if_neg h];exact h2 h
theorem zjd{α τ:Type}{p:StateT SortSt Sem α}{v:PUnit->τ->StateT SortSt Sem α}{Q:α->SortSt->Prop}{st:SortSt}{M:Model}(R:τ->Prop)(hb:(∀t,R t->wpS M A E s (v ⟨⟩ t) Q st)->wpS M A E s p Q st)(hv:∀t,R t->wpS M A E s (v ⟨⟩ t) Q st):wpS M A E s p Q st:=hb hv
theorem zbr{α τ υ:Type}{p:StateT SortSt Sem α}{v:PUnit->τ->υ->StateT SortSt Sem α}{Q:α->SortSt->Prop}{st:SortSt}{M:Model}(R:τ->υ->Prop)(hb:(∀t u,R t u->wpS M A E s (v ⟨⟩ t u) Q st)->wpS M A E s p Q st)(hv:∀t u,R t u->wpS M A E s (v ⟨⟩ t u) Q st):wpS M A E s p Q st:=hb hv
theorem st4{α β γ δ C:Type}{lo hi:Nat}{F:α->β->γ->δ->C}{P:Nat->SortSt->α->β->γ->δ->Prop}{G:Nat->C->SortSt->Prop}(h:∀x z,lo<=x->x<hi->∀a b c d,P x z a b c d->G x (F a b c d) z):∀x c z,lo<=x->x<hi->(∃a b i d,c=F a b i d/\P x z a b i d)->G x c z:=by
 intro x c z h1 h2 e;obtain⟨a,b,i,d,rfl,p⟩:=e;exact h x z h1 h2 a b i d p
theorem st5{α β γ δ ε C:Type}{lo hi:Nat}{z:SortSt}{F:α->β->γ->δ->ε->C}{P:Nat->α->β->γ->δ->ε->Prop}{G:Nat->C->SortSt->Prop}(h:∀x,lo<=x->x<hi->∀a b c d e,P x a b c d e->G x (F a b c d e) z):∀x c z',lo<=x->x<hi->(z=z'/\∃a b i d e,c=F a b i d e/\P x a b i d e)->G x c z':=by
 intro x c z' h1 h2 e;obtain⟨rfl,a,b,i,d,e,rfl,p⟩:=e;exact h x h1 h2 a b i d e p
theorem st6{α β γ δ ε ζ C:Type}{lo hi:Nat}{F:α->β->γ->δ->ε->ζ->C}{P:Nat->SortSt->α->β->γ->δ->ε->ζ->Prop}{G:Nat->C->SortSt->Prop}(h:∀x z,lo<=x->x<hi->∀a b c d e f,P x z a b c d e f->G x (F a b c d e f) z):∀x c z,lo<=x->x<hi->(∃a b i d e f,c=F a b i d e f/\P x z a b i d e f)->G x c z:=by
 intro x c z h1 h2 e;obtain⟨a,b,i,d,e,f,rfl,p⟩:=e;exact h x z h1 h2 a b i d e f p
theorem po5{ρ τ α β γ δ ε C:Type}{z:SortSt}{K:ρ->τ->C}{R:ρ->τ->Prop}{F:α->β->γ->δ->ε->C}{P:α->β->γ->δ->ε->Prop}{G:C->SortSt->Prop}(k:∀r t,R r t->G (K r t) z)(h:∀a b c d e,P a b c d e->G (F a b c d e) z):∀c z',(z=z'/\((∃r t,c=K r t/\R r t)\/∃a b i d e,c=F a b i d e/\P a b i d e))->G c z':=by
 intro c z' e;obtain⟨rfl,⟨r,t,rfl,p⟩ |⟨a,b,i,d,e,rfl,p⟩⟩:=e
 ·exact k r t p
 ·exact h a b i d e p
theorem po6{ρ τ α β γ δ ε ζ C:Type}{K:ρ->τ->C}{R:SortSt->ρ->τ->Prop}{F:α->β->γ->δ->ε->ζ->C}{P:SortSt->α->β->γ->δ->ε->ζ->Prop}{G:C->SortSt->Prop}(k:∀z r t,R z r t->G (K r t) z)(h:∀z a b c d e f,P z a b c d e f->G (F a b c d e f) z):∀c z',((∃r t,c=K r t/\R z' r t)\/∃a b i d e f,c=F a b i d e f/\P z' a b i d e f)->G c z':=by
 intro c z' e;obtain⟨r,t,rfl,p⟩ |⟨a,b,i,d,e,f,rfl,p⟩:=e
 ·exact k _ r t p
 ·exact h _ a b i d e f p
theorem exA{xs:Array Keyed}{i:Nat}{G:Prop}(h:i<xs.size)(g:∀p,xs[i]?=some p->p∈xs.toList->G):G:=by
 obtain⟨p,e,m⟩:=zc3 h;exact g p e m
theorem zku{st:SortSt}{a b:Array Keyed}{Q:Array Keyed->SortSt->Prop}(L:vz prog w A s κ kd)(hk:kindOf st=kd)(ka:AllK κ a)(kb:AllK κ b)(sa:Srt κ a)(sb:Srt κ b)(na:1<=a.size)(nb:1<=b.size)
  (hl:∀x∈b.toList,∀y,a[a.size-1]?=some y->le κ x y) (hf:∀p,b[0]?=some p->∀y∈a.toList,le κ p y) (q:∀r st',Gm st st'->Mg κ a b r->Q r st'):wpS (model prog w) A E s (zmz a b) Q st:=by
 have hlast:∀ia,ia+1=a.size->∀x∈b.toList,∀y∈a.toList.drop ia,le κ x y:=λia e x hx y hy=>by
  obtain⟨p,ep,_⟩:=zc3 (xs:=a) (i:=ia) (by lia);rw[xj (wz ep),List.drop_eq_nil_of_le (by simp;lia),List.mem_singleton]at hy;subst hy;exact hl x hx _ (by rw[show a.size-1=ia by lia];exact ep)
 refine wpS_bind (wpS_lift (wpAny_rule ⟨rfl,?_⟩))
 extract_lets -underBinder -merge -useContext total done lastA
 refine exA (xs:=b) (i:=0) (by lia) λp0 e0 _=>?_;refine wpS_bind (yt e0 ?_)
 extract_lets -underBinder -merge -useContext o0 i0 j0
 subst o0 i0 j0;have m0:MI κ a b #[p0] 0 1:=⟨by rw[wy (wz e0)];simp,List.pairwise_singleton _ _,λx hx y hy=>by rw[List.mem_singleton.mp hx];exact hf p0 e0 y (by simpa using hy),λx hx y hy=>by rw[List.mem_singleton.mp hx];exact sb.rest e0 y (List.mem_of_mem_drop hy)⟩
 refine zx (λc1=>wpS_pure (q _ st (Gm.refl _) (m0.fin sa sb (.inr (Nat.le_of_eq (by simpa using c1:1=b.size).symm))))) (λc1=>zx (λc2=>wpS_pure (q _ st (Gm.refl _) (m0.last sa sb (hlast 0 (by simpa using c2))))) (λc2=>?_))
 replace c1:¬ 1=b.size:=by simpa using c1
 replace c2:¬ 0+1=a.size:=by simpa using c2
 refine wpS_bind (wpS_get ?_)
 extract_lets -underBinder -merge -useContext g0
 subst g0;refine wpS_bind (wpS_mono (wpS_forRange (I:=λx c z=>∃out ia ib mg,c=(none,out,ia,ib,mg)/\Gm st z/\MI κ a b out ia ib/\ia+1<a.size/\ib<b.size/\x+1<=ia+ib)
  (Q:=λc z=>∃r rest,c=(some r,rest)/\Gm st z/\Mg κ a b r) (st4 λx z hx1 hx2 out ia ib mg h=>?_) (λc z h=>?_) ⟨_,0,1,_,rfl,Gm.refl _,m0,by lia,by lia,by lia⟩) (λc z h=>?_))
 ·have gm:=h.1;have m:=h.2.1;have ba:=h.2.2.1;have bb:=h.2.2.2.1;have prog_:=h.2.2.2.2;clear h
  extract_lets -underBinder -merge -useContext s1 o1 s2 i1 s3 j1 g1 ac1 bc1
  subst s1 o1 s2 i1 s3 j1 g1 ac1 bc1;dsimp -zeta only;have kz:=gm.k.trans hk;refine wpS_bind (wpS_mono (wpS_forRange (I:=λy c z'=>z=z'/\∃out ia ib ac bc,c=(none,out,ia,ib,ac,bc)/\MI κ a b out ia ib/\ia+1<a.size/\ib<b.size/\x+1<=ia+ib)
   (Q:=λc z'=>z=z'/\((∃r rest,c=(some r,rest)/\Mg κ a b r)\/∃out ia ib ac bc,c=(none,out,ia,ib,ac,bc)/\MI κ a b out ia ib/\ia+1<a.size/\ib<b.size/\x+1<=ia+ib))
   (st5 λy hy1 hy2 out ia ib ac bc h=>?_) (λc z' h=>?_) ⟨rfl,_,_,_,_,_,rfl,m,ba,bb,prog_⟩) (po5 (λr rest hr=>wpS_pure ⟨r,_,rfl,gm,hr⟩) λout ia ib ac bc h=>?_))
  ·have m:=h.1;have ba:=h.2.1;have bb:=h.2.2.1;have prog_:=h.2.2.2;clear h
   try dsimp only
   refine exA (xs:=b) (i:=ib) bb λpb eb mb=>?_;refine exA (xs:=a) (i:=ia) (by lia) λpa ea ma=>?_;refine wpS_bind (yt eb (wpS_bind (yt ea (wpS_bind (zmx L kz (kb _ mb) (ka _ ma) ?_)))))
   cases cb:κ.blt (kk κ pb) (kk κ pa) with
   |true=>
    dsimp only;rw[if_pos rfl];refine wpS_bind (yt eb ?_);have m':=m.pushB sb eb λy hy=>le_trans (show le κ pb pa from KeyOrd.kle_of_klt cb) (sa.rest ea y hy)
    by_cases d1:ib+1=b.size
    ·rw[if_pos (by simpa using d1)];exact wpS_pure ⟨rfl,.inl ⟨_,_,rfl,m'.fin sa sb (.inr (by lia))⟩⟩
    ·rw[if_neg (by simpa using d1)];refine zx (λ_=>?_) (λ_=>?_)
     ·exact wpS_pure ⟨rfl,.inr ⟨_,_,_,_,_,rfl,m',ba,by lia,by lia⟩⟩
     ·exact wpS_pure ⟨rfl,_,_,_,_,_,rfl,m',ba,by lia,by lia⟩
   |false=>
    dsimp only;rw[if_neg (by decide)];refine wpS_bind (yt ea ?_);have m':=m.pushA sa ea λy hy=>le_trans (show le κ pa pb from cb) (sb.rest eb y hy)
    by_cases d1:ia+1+1=a.size
    ·rw[if_pos (by simpa using d1)];exact wpS_pure ⟨rfl,.inl ⟨_,_,rfl,m'.last sa sb (hlast _ d1)⟩⟩
    ·rw[if_neg (by simpa using d1)];refine zx (λ_=>?_) (λ_=>?_)
     ·exact wpS_pure ⟨rfl,.inr ⟨_,_,_,_,_,rfl,m',by lia,by omega,by lia⟩⟩
     ·exact wpS_pure ⟨rfl,_,_,_,_,_,rfl,m',by lia,by omega,by lia⟩
  ·obtain⟨rfl,h⟩:=h;exact⟨rfl,.inr h⟩
  ·skip
   ·have m:=h.1;have ba:=h.2.1;have bb:=h.2.2.1;have prog_:=h.2.2.2;clear h
    extract_lets -underBinder -merge -useContext r1 s1 o1 s2 i1 s3 j1 s4 ac1 bc1
    subst r1 s1 o1 s2 i1 s3 j1 s4 ac1 bc1;dsimp -zeta only;refine wpS_bind (wpS_lift (wpAny_rule ⟨rfl,?_⟩));refine wpS_bind (wpS_mono (wpS_forRange (I:=λy c z'=>∃out ia ib mg ac bc,c=(none,out,ia,ib,mg,ac,bc)/\Gm st z'/\MI κ a b out ia ib/\ia+1<a.size/\ib<b.size/\x+1+y<=ia+ib)
     (Q:=λc z'=>(∃r rest,c=(some r,rest)/\Gm st z'/\Mg κ a b r)\/∃out ia ib mg ac bc,c=(none,out,ia,ib,mg,ac,bc)/\Gm st z'/\MI κ a b out ia ib/\ia+1<a.size/\ib<b.size/\x+1+1<=ia+ib)
     (st6 λy z' hy1 hy2 out ia ib mg ac bc h=>?_) (λc z' h=>?_) ⟨_,_,_,_,_,_,rfl,gm,m,ba,bb,by omega⟩) (po6 (λz' r rest hr=>wpS_pure ⟨r,_,rfl,hr.1,hr.2⟩) λz' out ia ib mg ac bc h=>?_))
    ·have gm':=h.1;have m:=h.2.1;have ba:=h.2.2.1;have bb:=h.2.2.2.1;have prog_:=h.2.2.2.2;clear h
     extract_lets -underBinder -merge -useContext s1 o1 s2 i1 s3 j1 s4 g1 s5 ac1 bc1 jp
     subst s1 o1 s2 i1 s3 j1 s4 g1 s5 ac1 bc1;dsimp -zeta only;refine exA (xs:=b) (i:=ib) bb λpb eb mb=>?_;refine zjd (v:=jp) (λ_=>True) (λhj=>zx (λ_=>hj _ trivial) (λ_=>hj _ trivial)) (λmg1 _=>?_);dsimp -zeta only [jp];refine wpS_bind (h7 λz2 g2=>?_);have gm2:=gm'.trans g2;have kz2:=gm2.k.trans hk;refine wpS_bind (yt eb (wpS_bind (wx L kz2 (ka.ky ia (a.size-ia) (by lia)) (kb _ mb) (by lia) (zm1 sa (by lia)) λk hk1 hk2 hk3=>?_)));dsimp -zeta only
     extract_lets -underBinder -merge -useContext ac1 jp2
     subst ac1;refine zbr (v:=jp2) (λo i=>MI κ a b o i ib/\i+1<a.size/\ia<=i/\∀y∈a.toList.drop i,le κ pb y) (λhj=>?_) (λo i h=>?_)
     rotate_left
     ·dsimp -zeta only [jp2];clear jp2 jp;have m2:=h.1;have b2:=h.2.1;have l2:=h.2.2.1;have n2:=h.2.2.2;clear h;refine wpS_bind (yt eb ?_)
      extract_lets -underBinder -merge -useContext o1 j1
      subst o1 j1;have m3:=m2.pushB sb eb n2;refine zx (λd=>wpS_pure (.inl ⟨_,_,rfl,gm2,m3.fin sa sb (.inr (Nat.le_of_eq (by simpa using d:ib+1=b.size).symm))⟩)) (λd=>?_);have d1:¬ (ib+1=b.size):=by simpa using d
      refine exA (xs:=a) (i:=i) (by (clear hy1 hy2 ba bb prog_ hk1;lia)) λpa ea ma=>?_;refine wpS_bind (yt ea (wpS_bind (wx L kz2 (kb.ky (ib+1) (b.size-(ib+1)) (by (clear hy1 hy2 ba prog_ hk1 b2 l2;omega))) (ka _ ma) (by (clear hy1 hy2 ba prog_ hk1 b2 l2;lia)) (zm2 sb (by (clear hy1 hy2 ba prog_ hk1 b2 l2;lia))) λk2 g1 g3 g4=>?_)));dsimp -zeta only
      extract_lets -underBinder -merge -useContext bc1 jp
      subst bc1;refine zbr (v:=jp) (λo u=>MI κ a b o i u/\u<b.size/\ib+1<=u/\∀y∈b.toList.drop u,le κ pa y) (λhj=>?_) (λo u h=>?_)
      rotate_left
      ·dsimp -zeta only [jp];clear jp;have m4:=h.1;have b4:=h.2.1;have l4:=h.2.2.1;have n4:=h.2.2.2;clear h;refine wpS_bind (yt ea ?_)
       extract_lets -underBinder -merge -useContext o1 i1
       subst o1 i1;have m5:=m4.pushA sa ea n4;refine zx (λd=>wpS_pure (.inl ⟨_,_,rfl,gm2,m5.last sa sb (hlast _ (by simpa using d))⟩)) (λd=>?_);have d6:¬ (i+1+1=a.size):=by simpa using d
       have d5:i+1+1<a.size:=by (clear hy1 hy2 ba bb prog_ hk1 g1;lia)
       refine zx (λ_=>wpS_pure (.inr ⟨_,_,_,_,_,_,rfl,gm2,m5,d5,b4,by (clear hk1 g1;lia)⟩)) (λ_=>wpS_pure ⟨_,_,_,_,_,_,rfl,gm2,m5,d5,b4,by (clear hk1 g1;lia)⟩)
      ·have mk2:=m3.chunkB sb k2 (by (clear hy1 hy2 ba prog_ hk1 b2 l2;omega)) λi hi p ep y hy=>by
        have:=g3 i hi;rw[zab ep]at this;exact le_trans (show le κ p pa from KeyOrd.kle_of_klt this) (sa.rest ea y hy)
       have nx2:ib+1+k2<b.size->∀y∈b.toList.drop (ib+1+k2),le κ pa y:=λhlt y hy=>by
        obtain⟨p,ep,_⟩:=zc3 (xs:=b) (i:=ib+1+k2) hlt;have:=g4 k2 (Nat.le_refl _) (by (clear hy1 hy2 ba prog_ hk1 b2 l2;omega));rw[zab ep]at this;exact le_trans (show le κ pa p from this) (sb.rest ep y hy)
       refine zx (λk0=>zx (λd=>wpS_pure (.inl ⟨_,_,rfl,gm2,mk2.fin sa sb (.inr (Nat.le_of_eq (by simpa using d:ib+1+k2=b.size).symm))⟩)) (λd=>?_)) (λk0=>?_)
       ·have d2:¬ (ib+1+k2=b.size):=by simpa using d
        exact hj _ _ ⟨mk2,by (clear hy1 hy2 ba prog_ hk1 b2 l2;omega),by (clear hy1 hy2 ba prog_ hk1 b2 l2 g1;lia),nx2 (by lia)⟩
       ·have k2e:k2=0:=by (clear hy1 hy2 ba bb prog_ hk1 b2 l2 g1;lia)
        subst k2e;exact hj _ _ ⟨m3,by (clear hy1 hy2 ba prog_ hk1 g1;lia),by (clear hy1 hy2 ba prog_ hk1 g1;lia),nx2 (by (clear hy1 hy2 ba prog_ hk1 g1;lia))⟩
     ·have ck:∀i,i<k->∀p,a[ia+i]?=some p->∀y∈b.toList.drop ib,le κ p y:=λi hi p ep y hy=>by
       have:=hk2 i hi;rw[zaa ep]at this;exact le_trans (show le κ p pb from by simpa[le,KeyOrd.kle]using this) (sb.rest eb y hy)
      have mk:=m.chunkA sa k (by lia) ck;have nx:ia+k<a.size->∀y∈a.toList.drop (ia+k),le κ pb y:=λhlt y hy=>by
       obtain⟨p,ep,_⟩:=zc3 (xs:=a) (i:=ia+k) hlt;have:=hk3 k (Nat.le_refl _) (by lia);rw[zaa ep]at this;exact le_trans (show le κ pb p from KeyOrd.kle_of_klt (by simpa[KeyOrd.klt]using this)) (sa.rest ep y hy)
      refine zx (λk0=>zx (λd=>wpS_pure (.inl ⟨_,_,rfl,gm2,mk.last sa sb (hlast _ (by simpa using d))⟩)) (λd=>zx (λd2=>wpS_pure (.inl ⟨_,_,rfl,gm2,mk.fin sa sb (.inl (Nat.le_of_eq (by simpa using d2:ia+k=a.size).symm))⟩)) (λd2=>?_))) (λk0=>?_)
      ·have d3:¬ (ia+k+1=a.size):=by simpa using d
       have d4:¬ (ia+k=a.size):=by simpa using d2
       exact hj _ _ ⟨mk,by lia,by lia,nx (by (clear hy1 hy2 bb prog_;lia))⟩
      ·have ke:k=0:=by (clear hy1 hy2 ba bb prog_ hk1;lia)
       subst ke;exact hj _ _ ⟨m,ba,by lia,nx (by lia)⟩
    ·obtain⟨out,ia,ib,mg,ac,bc,rfl,gm',m,ba,bb,prog_⟩:=h;exact .inr ⟨_,_,_,_,_,_,rfl,gm',m,ba,bb,by lia⟩
    ·dsimp only;refine wpS_bind (h7 λz2 g2=>wpS_pure ⟨_,_,_,_,rfl,h.1.trans g2,h.2.1,h.2.2.1,h.2.2.2.1,by lia⟩)
 ·obtain⟨out,ia,ib,mg,rfl,gm,m,ba,bb,prog_⟩:=h;lia
 ·obtain⟨r,rest,rfl,gm,hr⟩:=h;exact wpS_pure (q r z gm hr)
end
end SQ
namespace SQ
open PySem PyProof.Rows
set_option autoImplicit false
structure MH(κ:KeyKind)(a b out:Array Keyed)(na nb:Nat):Prop where
 perm:out.toList.reverse.Perm (a.toList.drop na++b.toList.drop nb)
 sort:out.toList.reverse.Pairwise (le κ)
 la:∀x∈a.toList.take na,∀y∈out.toList.reverse,le κ x y
 lb:∀x∈b.toList.take nb,∀y∈out.toList.reverse,le κ x y
theorem zbs{xs:Array Keyed}{n:Nat}{x:Keyed}(h:x∈xs.toList.take n):∃i,i<n/\xs[i]?=some x:=by
 obtain⟨i,hi,e⟩:=List.mem_iff_getElem.mp h;refine⟨i,by rw[List.length_take]at hi;lia,?_⟩;rw[List.getElem_take]at e;rw[List.length_take]at hi;rw[<-Array.getElem?_toList,List.getElem?_eq_getElem (by lia),e]
section
variable {κ:KeyKind}{a b out:Array Keyed}{na nb:Nat}
theorem Srt.upto{xs:Array Keyed}(h:Srt κ xs){n:Nat}{p:Keyed}(h1:1<=n)(e:xs[n-1]?=some p):∀x∈xs.toList.take n,le κ x p:=λx hx=>by
 obtain⟨i,hi,ei⟩:=zbs hx;exact h.at (by omega) ei e
theorem jg{xs:Array Keyed}{n:Nat}{p:Keyed}(h1:1<=n)(e:xs[n-1]?=some p):xs.toList.drop (n-1)=p::xs.toList.drop n:=by
 have:=xj (wz e)
 rwa [show n-1+1=n by lia]at this
theorem qa{xs:Array Keyed}{n:Nat}{x:Keyed}(h:x∈xs.toList.take (n-1)):x∈xs.toList.take n:=by
 have:xs.toList.take (n-1)=(xs.toList.take n).take (n-1):=by rw[List.take_take,show min (n-1) n=n-1 by lia]
 rw[this]at h;exact List.mem_of_mem_take h
theorem MH.pushA(m:MH κ a b out na nb)(h1:1<=na)(sa:Srt κ a){p:Keyed}(e:a[na-1]?=some p)(h:∀x∈b.toList.take nb,le κ x p):MH κ a b (out.push p) (na-1) nb where
 perm:=by
  rw[Array.toList_push,List.reverse_append,jg h1 e];exact List.Perm.cons p m.perm
 sort:=by
  rw[Array.toList_push,List.reverse_append];refine List.pairwise_cons.mpr ⟨λy hy=>?_,m.sort⟩;obtain⟨q,eq⟩:∃q,q=na-1:=⟨_,rfl⟩
  exact m.la p (by
   have:na=(na-1)+1:=by omega
   rw[this,wy (wz e)];simp) y hy
 la:=λx hx y hy=>by
  rw[Array.toList_push,List.reverse_append]at hy;rcases List.mem_cons.mp hy with rfl|hy
  ·exact sa.upto h1 e x (qa hx)
  ·exact m.la x (qa hx) y hy
 lb:=λx hx y hy=>by
  rw[Array.toList_push,List.reverse_append]at hy;rcases List.mem_cons.mp hy with rfl|hy
  ·exact h x hx
  ·exact m.lb x hx y hy
theorem MH.pushB(m:MH κ a b out na nb)(h1:1<=nb)(sb:Srt κ b){p:Keyed}(e:b[nb-1]?=some p)(h:∀x∈a.toList.take na,le κ x p):MH κ a b (out.push p) na (nb-1) where
 perm:=by
  rw[Array.toList_push,List.reverse_append,jg h1 e];exact(List.Perm.cons p m.perm).trans List.perm_middle.symm
 sort:=by
  rw[Array.toList_push,List.reverse_append];refine List.pairwise_cons.mpr ⟨λy hy=>?_,m.sort⟩;exact m.lb p (by
   have:nb=(nb-1)+1:=by lia
   rw[this,wy (wz e)];simp) y hy
 lb:=λx hx y hy=>by
  rw[Array.toList_push,List.reverse_append]at hy;rcases List.mem_cons.mp hy with rfl|hy
  ·exact sb.upto h1 e x (qa hx)
  ·exact m.lb x (qa hx) y hy
 la:=λx hx y hy=>by
  rw[Array.toList_push,List.reverse_append]at hy;rcases List.mem_cons.mp hy with rfl|hy
  ·exact h x hx
  ·exact m.la x hx y hy
theorem zf3{xs:Array Keyed}{i n:Nat}{p:Keyed}(hn:i<n)(h:n<=xs.size)(e:xs[i]?=some p):(xs.extract i n).reverse=((xs.extract (i+1) n).reverse).push p:=by
 apply Array.ext';rw[Array.toList_push,Array.toList_reverse,Array.toList_reverse,Array.toList_extract,Array.toList_extract];simp only[List.extract_eq_take_drop];rw[xj (wz e),show n-i=(n-(i+1))+1 by lia,List.take_succ_cons,List.reverse_cons]
theorem MH.chunkA(m:MH κ a b out na nb)(sa:Srt κ a)(hn:na<=a.size):∀k:Nat,k<=na->(∀i,k<=i->i<na->∀p,a[i]?=some p->∀x∈b.toList.take nb,le κ x p)->MH κ a b (out++(a.extract k na).reverse) k nb:=by
 intro k hk h;obtain⟨d,hd⟩:∃d,na-k=d:=⟨_,rfl⟩
 induction d generalizing k with
 |zero=>
  have:k=na:=by lia
  subst this;rw[show a.extract k k = #[] by have:=j9 a k;rwa [Nat.add_zero]at this,Array.reverse_empty,Array.append_empty];exact m
 |succ d ih=>
  have e:a[k]?=some (a[k]'(by omega)):=Array.getElem?_eq_getElem _;have:=ih (k+1) (by lia) (λi h1 h2=>h i (by lia) h2) (by omega);rw[zf3 (by lia) hn e,Array.append_push];have r:=this.pushA (by lia) sa (by rw[show k+1-1=k by lia];exact e) (h k (Nat.le_refl _) (by lia) _ e)
  rwa [show k+1-1=k by lia]at r
theorem MH.chunkB'(m:MH κ a b out na nb)(sb:Srt κ b)(hn:nb<=b.size):∀k:Nat,k<=nb->(∀i,k<=i->i<nb->∀p,b[i]?=some p->∀x∈a.toList.take na,le κ x p)->MH κ a b (out++(b.extract k nb).reverse) na k:=by
 intro k hk h;obtain⟨d,hd⟩:∃d,nb-k=d:=⟨_,rfl⟩
 induction d generalizing k with
 |zero=>
  have:k=nb:=by lia
  subst this;rw[show b.extract k k = #[] by have:=j9 b k;rwa [Nat.add_zero]at this,Array.reverse_empty,Array.append_empty];exact m
 |succ d ih=>
  have e:b[k]?=some (b[k]'(by omega)):=Array.getElem?_eq_getElem _;have:=ih (k+1) (by lia) (λi h1 h2=>h i (by lia) h2) (by omega);rw[zf3 (by lia) hn e,Array.append_push];have r:=this.pushB (by lia) sb (by rw[show k+1-1=k by lia];exact e) (h k (Nat.le_refl _) (by lia) _ e)
  rwa [show k+1-1=k by lia]at r
theorem x0(xs:Array Keyed)(n:Nat):(xs.extract 0 n).toList=xs.toList.take n:=by
 rw[Array.toList_extract,List.extract_eq_take_drop,List.drop_zero,Nat.sub_zero]
theorem zje{α:Type}{o x y u v:List α}(h:o.Perm (x++y)):(u++v++o).Perm ((u++x)++(v++y)):=by
 refine(List.Perm.append_left _ h).trans ?_;rw[List.append_assoc,List.append_assoc u x];refine List.Perm.append_left u ?_;rw[<-List.append_assoc,<-List.append_assoc];exact List.Perm.append_right y List.perm_append_comm
theorem MH.fin(m:MH κ a b out na nb)(sa:Srt κ a)(sb:Srt κ b)(h:na=0\/nb=0):Mg κ a b (a.extract 0 na++b.extract 0 nb++out.reverse):=by
 refine⟨?_,?_⟩
 ·rw[Array.toList_append,Array.toList_append,x0,x0,Array.toList_reverse];have:=zje (u:=a.toList.take na) (v:=b.toList.take nb) m.perm
  rwa [List.take_append_drop,List.take_append_drop]at this
 ·rw[Array.toList_append,Array.toList_append,x0,x0,Array.toList_reverse];rcases h with rfl|rfl
  ·rw[List.take_zero,List.nil_append];exact List.pairwise_append.mpr ⟨sb.take,m.sort,m.lb⟩
  ·rw[List.take_zero,List.append_nil];exact List.pairwise_append.mpr ⟨sa.take,m.sort,m.la⟩
theorem MH.first(m:MH κ a b out na nb)(sa:Srt κ a)(sb:Srt κ b)(h:∀x∈b.toList.take nb,∀y∈a.toList,le κ x y):Mg κ a b (b.extract 0 nb++a.extract 0 na++out.reverse):=by
 refine⟨?_,?_⟩
 ·rw[Array.toList_append,Array.toList_append,x0,x0,Array.toList_reverse];have:=zje (u:=b.toList.take nb) (v:=a.toList.take na) (m.perm.trans List.perm_append_comm);rw[List.take_append_drop,List.take_append_drop]at this;exact this.trans List.perm_append_comm
 ·rw[Array.toList_append,Array.toList_append,x0,x0,Array.toList_reverse];refine List.pairwise_append.mpr ⟨List.pairwise_append.mpr ⟨sb.take,sa.take,λx hx y hy=>h x hx y (List.mem_of_mem_take hy)⟩,m.sort,λx hx y hy=>?_⟩;rcases List.mem_append.mp hx with hx|hx
  ·exact m.lb x hx y hy
  ·exact m.la x hx y hy
end
section
variable {prog:Program}{w:World}{A:Around}{E:Value->Shared->Prop}{s:Shared}{κ:KeyKind}{kd:SortKind}
theorem zkv{st:SortSt}{a b:Array Keyed}{Q:Array Keyed->SortSt->Prop}(L:vz prog w A s κ kd)(hk:kindOf st=kd)(ka:AllK κ a)(kb:AllK κ b)(sa:Srt κ a)(sb:Srt κ b)(sa1:1<=a.size)(sb1:1<=b.size)
  (hl:∀x∈b.toList,∀y,a[a.size-1]?=some y->le κ x y) (hf:∀p,b[0]?=some p->∀y∈a.toList,le κ p y) (q:∀r st',Gm st st'->Mg κ a b r->Q r st'):wpS (model prog w) A E s (zm0 a b) Q st:=by
 have hfirst:∀nb,nb<=1->∀x∈b.toList.take nb,∀y∈a.toList,le κ x y:=λnb h1 x hx y hy=>by
  obtain⟨i,hi,e⟩:=zbs hx;have:i=0:=by (clear sa1 sb1;lia)
  subst this;exact hf x e y hy
 refine wpS_bind (wpS_lift (wpAny_rule ⟨rfl,?_⟩))
 extract_lets -underBinder -merge -useContext total done firstB na0 nb0
 subst na0 nb0;refine exA (xs:=a) (i:=a.size-1) (by omega) λp0 e0 _=>?_;refine wpS_bind (yt e0 ?_)
 extract_lets -underBinder -merge -useContext o0
 subst o0;have m0:MH κ a b #[p0] (a.size-1) b.size:=⟨by
   rw[jg sa1 e0,List.drop_eq_nil_of_le (by simp),List.drop_eq_nil_of_le (by simp)];simp,by simp,λx hx y hy=>by
   have hy:y=p0:=by simpa using hy
   subst hy;exact sa.upto sa1 e0 x (qa hx),λx hx y hy=>by
   have hy:y=p0:=by simpa using hy
   subst hy;exact hl x (List.mem_of_mem_take hx) _ e0⟩
 refine zx (λc1=>?_) (λc1=>zx (λc2=>?_) (λc2=>?_))
 ·exact wpS_pure (q _ st (Gm.refl _) (m0.fin sa sb (.inl (by simpa using c1))))
 ·exact wpS_pure (q _ st (Gm.refl _) (m0.first sa sb (hfirst _ (Nat.le_of_eq (by simpa using c2)))))
 have c3:¬ (a.size-1=0):=by simpa using c1
 have c4:¬ (b.size=1):=by simpa using c2
 refine wpS_bind (wpS_get ?_)
 extract_lets -underBinder -merge -useContext g0
 subst g0;refine wpS_bind (wpS_mono (wpS_forRange (I:=λx c z=>∃na nb out mg,c=(none,na,nb,out,mg)/\Gm st z/\MH κ a b out na nb/\(1<=na/\na<=a.size)/\(2<=nb/\nb<=b.size)/\na+nb+(x+1)<=a.size+b.size)
  (Q:=λc z=>∃r rest,c=(some r,rest)/\Gm st z/\Mg κ a b r) (st4 λx z hx1 hx2 na nb out mg h=>?_) (λc z h=>?_) ⟨_,_,_,_,rfl,Gm.refl _,m0,by lia,by lia,by lia⟩) (λc z h=>?_))
 ·have gm:=h.1;have m:=h.2.1;have ba:=h.2.2.1;have bb:=h.2.2.2.1;have prog_:=h.2.2.2.2;clear h
  extract_lets -underBinder -merge -useContext s1 o1 s2 i1 s3 j1 g1 ac1 bc1
  subst s1 o1 s2 i1 s3 j1 g1 ac1 bc1;dsimp -zeta only;have kz:=gm.k.trans hk;refine wpS_bind (wpS_mono (wpS_forRange (I:=λy c z'=>z=z'/\∃na nb out ac bc,c=(none,na,nb,out,ac,bc)/\MH κ a b out na nb/\(1<=na/\na<=a.size)/\(2<=nb/\nb<=b.size)/\na+nb+(x+1)<=a.size+b.size)
   (Q:=λc z'=>z=z'/\((∃r rest,c=(some r,rest)/\Mg κ a b r)\/∃na nb out ac bc,c=(none,na,nb,out,ac,bc)/\MH κ a b out na nb/\(1<=na/\na<=a.size)/\(2<=nb/\nb<=b.size)/\na+nb+(x+1)<=a.size+b.size))
   (st5 λy hy1 hy2 na nb out ac bc h=>?_) (λc z' h=>?_) ⟨rfl,_,_,_,_,_,rfl,m,ba,bb,prog_⟩) (po5 (λr rest hr=>wpS_pure ⟨r,_,rfl,gm,hr⟩) λna nb out ac bc h=>?_))
  ·have m:=h.1;have ba:=h.2.1;have bb:=h.2.2.1;have prog_:=h.2.2.2;clear h;dsimp only;refine exA (xs:=b) (i:=nb-1) (by omega) λpb eb mb=>?_;refine exA (xs:=a) (i:=na-1) (by omega) λpa ea ma=>?_;refine wpS_bind (yt eb (wpS_bind (yt ea (wpS_bind (zmx L kz (kb _ mb) (ka _ ma) ?_)))))
   cases cb:κ.blt (kk κ pb) (kk κ pa) with
   |true=>
    dsimp only;rw[if_pos rfl];refine wpS_bind (yt ea ?_);have m':=m.pushA ba.1 sa ea λx hx=>le_trans (sb.upto (by lia) eb x hx) (show le κ pb pa from KeyOrd.kle_of_klt cb);refine zx (λd=>wpS_pure ⟨rfl,.inl ⟨_,_,rfl,m'.fin sa sb (.inl (by simpa using d))⟩⟩) (λd=>?_);have d1:¬ (na-1=0):=by simpa using d
    refine zx (λ_=>wpS_pure ⟨rfl,.inr ⟨_,_,_,_,_,rfl,m',by lia,bb,by lia⟩⟩) (λ_=>wpS_pure ⟨rfl,_,_,_,_,_,rfl,m',by lia,bb,by lia⟩)
   |false=>
    dsimp only;rw[if_neg (by decide)];refine wpS_bind (yt eb ?_);have m':=m.pushB (by lia) sb eb λx hx=>le_trans (sa.upto ba.1 ea x hx) (show le κ pa pb from cb);refine zx (λd=>wpS_pure ⟨rfl,.inl ⟨_,_,rfl,m'.first sa sb (hfirst _ (Nat.le_of_eq (by simpa using d)))⟩⟩) (λd=>?_);have d1:¬ (nb-1=1):=by simpa using d
    refine zx (λ_=>wpS_pure ⟨rfl,.inr ⟨_,_,_,_,_,rfl,m',ba,by lia,by lia⟩⟩) (λ_=>wpS_pure ⟨rfl,_,_,_,_,_,rfl,m',ba,by lia,by lia⟩)
  ·obtain⟨rfl,h⟩:=h;exact⟨rfl,.inr h⟩
  ·skip
   ·have m:=h.1;have ba:=h.2.1;have bb:=h.2.2.1;have prog_:=h.2.2.2;clear h
    extract_lets -underBinder -merge -useContext r1 s1 o1 s2 i1 s3 j1 s4 ac1 bc1
    subst r1 s1 o1 s2 i1 s3 j1 s4 ac1 bc1;dsimp -zeta only;refine wpS_bind (wpS_lift (wpAny_rule ⟨rfl,?_⟩));refine wpS_bind (wpS_mono (wpS_forRange (I:=λy c z'=>∃na nb out mg ac bc,c=(none,na,nb,out,mg,ac,bc)/\Gm st z'/\MH κ a b out na nb/\(1<=na/\na<=a.size)/\(2<=nb/\nb<=b.size)/\na+nb+(x+1+y)<=a.size+b.size)
     (Q:=λc z'=>(∃r rest,c=(some r,rest)/\Gm st z'/\Mg κ a b r)\/∃na nb out mg ac bc,c=(none,na,nb,out,mg,ac,bc)/\Gm st z'/\MH κ a b out na nb/\(1<=na/\na<=a.size)/\(2<=nb/\nb<=b.size)/\na+nb+(x+1+1)<=a.size+b.size)
     (st6 λy z' hy1 hy2 na nb out mg ac bc h=>?_) (λc z' h=>?_) ⟨_,_,_,_,_,_,rfl,gm,m,ba,bb,by omega⟩) (po6 (λz' r rest hr=>wpS_pure ⟨r,_,rfl,hr.1,hr.2⟩) λz' na nb out mg ac bc h=>?_))
    ·have gm':=h.1;have m:=h.2.1;have ba:=h.2.2.1;have bb:=h.2.2.2.1;have prog_:=h.2.2.2.2;clear h
     extract_lets -underBinder -merge -useContext s1 o1 s2 i1 s3 j1 s4 g1 s5 ac1 bc1 jp
     subst s1 o1 s2 i1 s3 j1 s4 g1 s5 ac1 bc1;dsimp -zeta only;refine exA (xs:=b) (i:=nb-1) (by (clear hy1 hy2 ba prog_;omega)) λpb eb mb=>?_;refine zjd (v:=jp) (λ_=>True) (λhj=>zx (λ_=>hj _ trivial) (λ_=>hj _ trivial)) (λmg1 _=>?_);dsimp -zeta only [jp];refine wpS_bind (h7 λz2 g2=>?_);have gm2:=gm'.trans g2;have kz2:=gm2.k.trans hk;refine wpS_bind (yt eb (wpS_bind (wx L kz2 (ka.ky 0 na (by lia)) (kb _ mb) (by lia) (zm1 sa (by lia)) λk hk1 hk2 hk3=>?_)));dsimp -zeta only
     extract_lets -underBinder -merge -useContext k1 ac1 jp2
     subst ac1 k1;refine zbr (v:=jp2) (λ(i:Nat) o=>MH κ a b o i nb/\(1<=i/\i<=na)/\∀x∈a.toList.take i,le κ x pb) (λhj=>?_) (λi o h=>?_)
     rotate_left
     ·dsimp -zeta only [jp2];clear jp2 jp
      extract_lets -underBinder -merge -useContext n1
      subst n1;have m2:=h.1;have b2:=h.2.1;have n2:=h.2.2;clear h;refine wpS_bind (yt eb ?_)
      extract_lets -underBinder -merge -useContext o1
      subst o1;have m3:=m2.pushB (by (clear hy1 hy2 ba prog_ hk1 b2;lia)) sb eb n2;refine zx (λd=>wpS_pure (.inl ⟨_,_,rfl,gm2,m3.first sa sb (hfirst _ (Nat.le_of_eq (by simpa using d)))⟩)) (λd=>?_);have d1:¬ (nb-1=1):=by simpa using d
      refine exA (xs:=a) (i:=i-1) (by (clear hy1 hy2 bb prog_ hk1;omega)) λpa ea ma=>?_;refine wpS_bind (yt ea (wpS_bind (wx L kz2 (kb.ky 0 (nb-1) (by lia)) (ka _ ma) (by (clear hy1 hy2 ba prog_ hk1 b2;omega)) (zm2 sb (by lia)) λk2 g1 g3 g4=>?_)));dsimp -zeta only
      extract_lets -underBinder -merge -useContext k1 bc1 jp
      subst bc1 k1;refine zbr (v:=jp) (λ(u:Nat) o=>MH κ a b o i u/\(2<=u/\u<=nb-1)/\∀x∈b.toList.take u,le κ x pa) (λhj=>?_) (λu o h=>?_)
      rotate_left
      ·dsimp -zeta only [jp];clear jp
       extract_lets -underBinder -merge -useContext n1
       subst n1;have m4:=h.1;have b4:=h.2.1;have n4:=h.2.2;clear h;refine wpS_bind (yt ea ?_)
       extract_lets -underBinder -merge -useContext o1
       subst o1;have m5:=m4.pushA (by (clear hy1 hy2 bb prog_ hk1 g1 b4;lia)) sa ea n4;refine zx (λd=>wpS_pure (.inl ⟨_,_,rfl,gm2,m5.fin sa sb (.inl (by simpa using d))⟩)) (λd=>?_);have d6:¬ (i-1=0):=by simpa using d
       refine zx (λ_=>wpS_pure (.inr ⟨_,_,_,_,_,_,rfl,gm2,m5,by (clear hy1 hy2 bb prog_ hk1 g1 b4;lia),by (clear hy1 hy2 prog_ hk1 g1;lia),by lia⟩)) (λ_=>wpS_pure ⟨_,_,_,_,_,_,rfl,gm2,m5,by lia,by lia,by lia⟩)
      ·have mk2:=m3.chunkB' sb (by (clear hy1 hy2 ba prog_ hk1 b2;lia)) k2 g1 λi h1 h2 p ep x hx=>by
        have:=g4 i h1 h2;rw[zab (by rw[Nat.zero_add];exact ep)]at this;exact le_trans (sa.upto (by lia) ea x hx) (show le κ pa p from this)
       have nx2:∀x∈b.toList.take k2,le κ x pa:=λx hx=>by
        obtain⟨i,hi,ei⟩:=zbs hx;have:=g3 i hi;rw[zab (by rw[Nat.zero_add];exact ei)]at this;exact KeyOrd.kle_of_klt this
       refine zx (λk0=>zx (λd=>wpS_pure (.inl ⟨_,_,rfl,gm2,mk2.first sa sb (hfirst _ (Nat.le_of_eq (by simpa using d)))⟩)) (λd=>zx (λd2=>wpS_pure (.inl ⟨_,_,rfl,gm2,mk2.fin sa sb (.inr (by simpa using d2))⟩)) (λd2=>?_))) (λk0=>?_)
       ·have d3:¬ (k2=1):=by simpa using d
        have d4:¬ (k2=0):=by simpa using d2
        exact hj _ _ ⟨mk2,by (clear hy1 hy2 ba bb prog_ hk1 b2 k0;lia),nx2⟩
       ·have k2e:k2=nb-1:=by (clear hy1 hy2 ba prog_ hk1 b2;omega)
        subst k2e;exact hj _ _ ⟨m3,by (clear hy1 hy2 ba prog_ hk1 b2 k0;lia),nx2⟩
     ·have ck:∀i,k<=i->i<na->∀p,a[i]?=some p->∀x∈b.toList.take nb,le κ x p:=λi h1 h2 p ep x hx=>by
       have:=hk3 i h1 h2;rw[zaa (by rw[Nat.zero_add];exact ep)]at this;exact le_trans (sb.upto (by lia) eb x hx) (show le κ pb p from KeyOrd.kle_of_klt (by simpa[KeyOrd.klt]using this))
      have mk:=m.chunkA sa (by lia) k hk1 ck;have nx:∀x∈a.toList.take k,le κ x pb:=λx hx=>by
       obtain⟨i,hi,ei⟩:=zbs hx;have:=hk2 i hi;rw[zaa (by rw[Nat.zero_add];exact ei)]at this;simpa[le,KeyOrd.kle]using this
      refine zx (λk0=>zx (λd=>wpS_pure (.inl ⟨_,_,rfl,gm2,mk.fin sa sb (.inl (by simpa using d))⟩)) (λd=>?_)) (λk0=>?_)
      ·have d3:¬ (k=0):=by simpa using d
       exact hj _ _ ⟨mk,by (clear hy1 hy2 bb prog_ k0;lia),nx⟩
      ·have ke:k=na:=by (clear hy1 hy2 bb prog_;lia)
       subst ke;exact hj _ _ ⟨m,by lia,nx⟩
    ·obtain⟨na,nb,out,mg,ac,bc,rfl,gm',m,ba,bb,prog_⟩:=h;exact .inr ⟨_,_,_,_,_,_,rfl,gm',m,ba,bb,by lia⟩
    ·dsimp only;refine wpS_bind (h7 λz2 g2=>wpS_pure ⟨_,_,_,_,rfl,h.1.trans g2,h.2.1,h.2.2.1,h.2.2.2.1,by lia⟩)
 ·obtain⟨na,nb,out,mg,rfl,gm,m,ba,bb,prog_⟩:=h;lia
 ·obtain⟨r,rest,rfl,gm,hr⟩:=h;exact wpS_pure (q r z gm hr)
end
end SQ
namespace SQ
open PySem PyProof.Rows
set_option autoImplicit false
theorem zjf(at_:Nat):∀(l:List Keyed) (n:Nat) (xs:Array Keyed),at_+n+l.length<=xs.size ->
  ((l.zipIdx n).foldl (λa pj=>a.setIfInBounds (at_+pj.2) pj.1) xs).toList=xs.toList.take (at_+n)++l++xs.toList.drop (at_+n+l.length)
 |[],n,xs,_=>by simp
 |p::l,n,xs,h=>by
  rw[List.length_cons]at h;rw[List.zipIdx_cons,List.foldl_cons,zjf at_ l (n+1) _ (by simpa using (by lia:at_+(n+1)+l.length<=xs.size))];simp only[Array.toList_setIfInBounds,List.length_cons];have hl:at_+n<xs.toList.length:=by simpa using (by lia:at_+n<xs.size)
  rw[List.drop_set_of_lt (by lia),show at_+(n+1)=(at_+n)+1 by lia,List.take_add_one,List.getElem?_set_self hl,List.take_set_of_le (Nat.le_refl _)];simp[Nat.add_assoc,Nat.add_comm,Nat.add_left_comm]
theorem zeq{xs:Array Keyed}{lo n i:Nat}(hi:i<n):((xs.toList.drop lo).take n)[i]?=xs[lo+i]?:=by
 rw[List.getElem?_take_of_lt hi,List.getElem?_drop,Array.getElem?_toList]
theorem zdr{κ:KeyKind}{xs:Array Keyed}{lo n:Nat}(h:lo+n<=xs.size):Up κ xs lo n↔((xs.toList.drop lo).take n).Pairwise (le κ):=by
 have len:((xs.toList.drop lo).take n).length=n:=by simp;lia
 have el:∀i (hi:i<n),∃p,xs[lo+i]?=some p/\((xs.toList.drop lo).take n)[i]?=some p:=λi hi=>⟨xs[lo+i],Array.getElem?_eq_getElem (by lia),by rw[zeq hi];exact Array.getElem?_eq_getElem (by lia)⟩
 constructor
 ·intro u;rw[List.pairwise_iff_getElem];intro i j h1 h2 hij;rw[len]at h1 h2;obtain⟨p,e1,e2⟩:=el i h1;obtain⟨r,e3,e4⟩:=el j h2;have:=u (lo+i) (lo+j) (by lia) (by lia) (by lia);rw[wb e1,wb e3]at this;obtain⟨_,q1⟩:=List.getElem?_eq_some_iff.mp e2;obtain⟨_,q2⟩:=List.getElem?_eq_some_iff.mp e4;rw[q1,q2];exact this
 ·intro u i j h1 h2 h3;obtain⟨p,e1,e2⟩:=el (i-lo) (by (clear h len;lia));obtain⟨r,e3,e4⟩:=el (j-lo) (by (clear h len;lia));rw[show lo+(i-lo)=i by (clear h len h2 h3;lia)]at e1;rw[show lo+(j-lo)=j by (clear h len h3;lia)]at e3;rw[wb e1,wb e3]
  by_cases c:i=j
  ·subst c;rw[e1]at e3;cases e3;exact KeyOrd.kle_refl _
  ·obtain⟨l1,q1⟩:=List.getElem?_eq_some_iff.mp e2;obtain⟨l2,q2⟩:=List.getElem?_eq_some_iff.mp e4;have:=List.pairwise_iff_getElem.mp u (i-lo) (j-lo) l1 l2 (by (clear h len h3;lia));rw[q1,q2]at this;exact this
theorem zer(xs:Array Keyed)(lo hi:Nat):(xs.extract lo hi).toList=(xs.toList.drop lo).take (hi-lo):=by
 rw[Array.toList_extract,List.extract_eq_take_drop]
section
variable {prog:Program}{w:World}{A:Around}{E:Value->Shared->Prop}{s:Shared}{κ:KeyKind}{kd:SortKind}{a₀:Array Keyed}
theorem AllK.of{xs:Array Keyed}(h:∀p∈xs.toList,∃a,κ.keyOf p.1=some a):AllK κ xs:=λp hp=>by
 obtain⟨a,e⟩:=h p hp;unfold kk;rw[e];rfl
theorem SG.allK{st:SortSt}(g:SG kd a₀ st)(h0:KeysOf κ a₀):AllK κ (arrOf st):=AllK.of λp hp=>h0 p ((Array.perm_iff_toList_perm.mp g.perm).mem_iff.mp hp)
theorem zhx{l:List Keyed}{sa na nb k nb':Nat}{M:List Keyed}(hs:sa+na+nb<=l.length)(u1:((l.drop sa).take na).Pairwise (le κ))(u2:((l.drop (sa+na)).take nb).Pairwise (le κ))(hk:k<na)(hb:nb'<=nb)(hb1:1<=nb')
  (h1:∀x∈(l.drop sa).take k,∀y∈(l.drop (sa+na)).take nb,le κ x y) (h2:∀x∈(l.drop sa).take na,∀y∈((l.drop (sa+na)).take nb).drop nb',le κ x y)
  (pm:M.Perm (((l.drop (sa+k)).take (na-k))++((l.drop (sa+na)).take nb'))) (sm:M.Pairwise (le κ)) :
  (l.take (sa+k)++M++l.drop (sa+k+M.length)).Perm l/\(((l.take (sa+k)++M++l.drop (sa+k+M.length)).drop sa).take (na+nb)).Pairwise (le κ)/\M.length=na-k+nb':=by
 have lenM:M.length=na-k+nb':=by rw[pm.length_eq];simp;lia
 have eA:(l.drop sa).take na=(l.drop sa).take k++(l.drop (sa+k)).take (na-k):=by
  rw[show(l.drop (sa+k))=(l.drop sa).drop k by rw[List.drop_drop],<-List.take_add,show k+(na-k)=na by (clear hs hb hb1 lenM;lia)]
 have eB:(l.drop (sa+na)).take nb=(l.drop (sa+na)).take nb'++((l.drop (sa+na)).take nb).drop nb':=by
  have:=(List.take_append_drop nb' ((l.drop (sa+na)).take nb)).symm
  rwa [List.take_take,Nat.min_eq_left hb]at this
 have eY:((l.drop (sa+na)).take nb).drop nb'=(l.drop (sa+na+nb')).take (nb-nb'):=by
  rw[List.drop_take,List.drop_drop]
 have hm:sa+k+M.length=sa+na+nb':=by (clear hs hb;lia)
 refine⟨?_,?_,lenM⟩
 ·have e:l=l.take (sa+k)++((l.drop (sa+k)).take (na-k)++(l.drop (sa+na)).take nb')++l.drop (sa+k+M.length):=by
   have e1:=(List.take_append_drop (sa+k) l).symm;have e2:=(List.take_append_drop (na-k) (l.drop (sa+k))).symm;rw[List.drop_drop,show sa+k+(na-k)=sa+na by (clear hs hb hb1;lia)]at e2;have e3:=(List.take_append_drop nb' (l.drop (sa+na))).symm;rw[List.drop_drop]at e3;rw[hm]
   conv=>lhs;rw[e1,e2,e3]
   simp
  conv=>rhs;rw[e]
  exact(List.Perm.append_left _ pm).append_right _
 ·have dp:(l.take (sa+k)++M++l.drop (sa+k+M.length)).drop sa=(l.drop sa).take k++M++l.drop (sa+k+M.length):=by
   rw[List.append_assoc,List.drop_append_of_le_length (by simp;lia),List.drop_take,show sa+k-sa=k by lia,List.append_assoc]
  rw[dp,List.take_append,List.take_of_length_le (by simp;(clear hs hk;lia))];have l3:(((l.drop sa).take k)++M).length=na+nb':=by simp;lia
  rw[l3,hm,show na+nb-(na+nb')=nb-nb' by (clear hs hm l3;lia),<-eY];rw[eA]at u1 h2;rw[eB]at u2 h1;have u1':=List.pairwise_append.mp u1;have u2':=List.pairwise_append.mp u2;have inM:∀x∈M,x∈(l.drop (sa+k)).take (na-k)\/x∈(l.drop (sa+na)).take nb':=λx hx=>List.mem_append.mp (pm.mem_iff.mp hx);refine List.pairwise_append.mpr ⟨List.pairwise_append.mpr ⟨u1'.1,sm,λx hx y hy=>?_⟩,u2'.2.1,λx hx y hy=>?_⟩
  ·rcases inM y hy with h|h
   ·exact u1'.2.2 x hx y h
   ·exact h1 x hx y (List.mem_append_left _ h)
  ·rcases List.mem_append.mp hx with hx|hx
   ·exact h2 x (List.mem_append_left _ hx) y hy
   ·rcases inM x hx with h|h
    ·exact h2 x (List.mem_append_right _ h) y hy
    ·exact u2'.2.2 x h y hy
end
end SQ
namespace SQ
open PySem PyProof.Rows
set_option autoImplicit false
section
variable {prog:Program}{w:World}{A:Around}{E:Value->Shared->Prop}{s:Shared}{κ:KeyKind}{kd:SortKind}{a₀:Array Keyed}
theorem zu7{st z:SortSt}{Q:PUnit->SortSt->Prop}(h:Q ⟨⟩ z):wpS (model prog w) A E s (set z:StateT SortSt Sem PUnit) Q st:=by
 unfold wpS;rw[StateT.run_set];exact wpAny_pure ⟨rfl,h⟩
theorem ko{xs:Array Keyed}{lo n:Nat}{x:Keyed}(h:x∈(xs.toList.drop lo).take n):∃i,i<n/\xs[lo+i]?=some x:=by
 obtain⟨i,hi⟩:=List.mem_iff_getElem?.mp h;have:i<n:=by
  have:=(List.getElem?_eq_some_iff.mp hi).1;rw[List.length_take]at this;lia
 exact⟨i,this,by rw[<-zeq this];exact hi⟩
theorem Up.join{xs:Array Keyed}{lo m n:Nat}(h1:Up κ xs lo m)(h2:Up κ xs (lo+m) n)(hm:1<=m)(c:κ.kle (KK κ xs (lo+m-1)) (KK κ xs (lo+m))):Up κ xs lo (m+n):=λi j a b d=>by
 by_cases ej:j<lo+m
 ·exact h1 i j a b ej
 ·by_cases ei:lo+m<=i
  ·exact h2 i j ei b (by lia)
  ·exact KeyOrd.kle_trans (h1 i (lo+m-1) a (by (clear a b d ej;omega)) (by lia)) (KeyOrd.kle_trans c (h2 (lo+m) j (Nat.le_refl _) (by lia) (by lia)))
theorem zkw{st:SortSt}{i sa na nb pw pw2:Nat}{Q:Bool->SortSt->Prop}(L:vz prog w A s κ kd)(h0:KeysOf κ a₀)(g:SG kd a₀ st)(e1:(pendingOf st)[i]?=some (sa,na,pw))(e2:(pendingOf st)[i+1]?=some (sa+na,nb,pw2))(hs:sa+na+nb<=a₀.size)(na1:1<=na)(nb1:1<=nb)
  (u1:Up κ (arrOf st) sa na) (u2:Up κ (arrOf st) (sa+na) nb)
  (q:∀st',SG kd a₀ st'->pendingOf st'=((pendingOf st).setIfInBounds i (sa,na+nb,pw)).eraseIdxIfInBounds (i+1)->(∀k,(k<sa\/sa+na+nb<=k)->(arrOf st')[k]?=(arrOf st)[k]?)->Up κ (arrOf st') sa (na+nb)->Q true st'):wpS (model prog w) A E s (mergeAt' i) Q st:=by
 have sz:=g.sz;have ak:=g.allK h0;refine wpS_bind (wpS_get ?_);show wpS _ _ _ _ (match ((pendingOf st)[i]?,(pendingOf st)[i+1]?) with |(some (sa,na,power),some (sb,nb,_))=>_|_=>_) _ _;rw[e1,e2];dsimp only;obtain⟨b0,eb0,mb0⟩:=zc3 (xs:=arrOf st) (i:=sa+na) (by lia);obtain⟨pa,epa,mpa⟩:=zc3 (xs:=arrOf st) (i:=sa+na-1) (by lia);refine wpS_bind (zu7 ?_);show wpS _ _ _ _ _ _ (SortSt.mk' (kindOf st) (arrOf st) (((pendingOf st).setIfInBounds i (sa,na+nb,pw)).eraseIdxIfInBounds (i+1)) (gallopOf st) (failedOf st));obtain⟨z,ez⟩:∃z,z=SortSt.mk' (kindOf st) (arrOf st) (((pendingOf st).setIfInBounds i (sa,na+nb,pw)).eraseIdxIfInBounds (i+1)) (gallopOf st) (failedOf st):=⟨_,rfl⟩
 rw[<-ez];have gz:SG kd a₀ z:=by rw[ez];exact⟨g.perm,g.kind,g.fail⟩
 have az:arrOf z=arrOf st:=by rw[ez]
 have pz:pendingOf z=((pendingOf st).setIfInBounds i (sa,na+nb,pw)).eraseIdxIfInBounds (i+1):=by rw[ez]
 have s1:Srt κ ((arrOf st).extract sa (sa+na)):=by
  show List.Pairwise _ _;rw[zer,show sa+na-sa=na by lia];exact(zdr (by lia)).mp u1
 have mo1:∀k,∀i j,i<=j->j<na->byd κ false k (arrOf st) sa j=true->byd κ false k (arrOf st) sa i=true:=λk i j a b c=>by
  unfold byd at c ⊢;simp only[Bool.false_eq_true,if_false,Bool.not_eq_true']at c ⊢;exact KeyOrd.kle_trans (u1 (sa+i) (sa+j) (by (clear hs na1 nb1 sz a b;lia)) (by (clear hs na1 nb1 sz b;lia)) (by (clear hs nb1 sz a;lia))) c
 have mo2:∀k,∀i j,i<=j->j<nb->byd κ true k (arrOf st) (sa+na) j=true->byd κ true k (arrOf st) (sa+na) i=true:=λk i j a b c=>by
  unfold byd at c ⊢;simp only[if_true]at c ⊢;exact KeyOrd.klt_of_kle_of_klt (u2 (sa+na+i) (sa+na+j) (by (clear hs nb1 sz a b;lia)) (by (clear hs nb1 sz b;lia)) (by lia)) c
 refine wpS_bind (yt eb0 (wpS_bind (wx L gz.kind (ak.ky sa na (by lia)) (ak _ mb0) (by (clear hs sz;lia)) (mo1 _) λk hk1 hk2 hk3=>?_)));dsimp only;refine zx (λc=>?_) (λc=>?_)
 ·have kn0:na-k=0:=by simpa using c
  have kn:k=na:=by (clear hs nb1 sz;lia)
  subst kn;refine wpS_pure (q z gz pz (λj _=>by rw[az]) ?_);rw[az];refine Up.join u1 u2 na1 ?_;have:=hk2 (k-1) (by (clear nb1 sz hs kn0;omega));rw[zaa (by rw[show sa+(k-1)=sa+k-1 by (clear nb1 sz hs kn0;lia)];exact epa)]at this;rw[wb epa,wb eb0];simpa[KeyOrd.kle]using this
 have kn0:¬ (na-k=0):=by simpa using c
 have kn:k<na:=by (clear hs nb1 sz;lia)
 rw[show sa+k+(na-k)-1=sa+na-1 by lia];refine wpS_bind (yt epa (wpS_bind (wx L gz.kind (ak.ky (sa+na) nb (by lia)) (ak _ mpa) (by (clear hs na1 sz hk1 kn;omega)) (mo2 _) λnb' g1 g3 g4=>?_)));dsimp only;refine zx (λc=>?_) (λc=>?_)
 ·have kn:nb'=0:=by simpa using c
  subst kn;refine wpS_pure (q z gz pz (λj _=>by rw[az]) ?_);rw[az];refine Up.join u1 u2 na1 ?_;have:=g4 0 (Nat.le_refl _) (by (clear hs na1 sz hk1 kn;lia));rw[zab (by rw[Nat.add_zero];exact eb0)]at this;rw[wb epa,wb eb0];exact this
 have nb00:¬ (nb'=0):=by simpa using c
 have nb0:1<=nb':=by (clear hs na1 nb1 sz hk1 kn g1;lia)
 have tX:((arrOf st).extract (sa+k) (sa+na)).toList=((arrOf st).toList.drop (sa+k)).take (na-k):=by rw[zer,show sa+na-(sa+k)=na-k by (clear hs nb1 sz g1 nb0;lia)]
 have tY:((arrOf st).extract (sa+na) (sa+na+nb')).toList=((arrOf st).toList.drop (sa+na)).take nb':=by rw[zer,show sa+na+nb' - (sa+na)=nb' by lia]
 have kX:AllK κ ((arrOf st).extract (sa+k) (sa+na)):=λp hp=>ak p (by rw[tX]at hp;exact List.mem_of_mem_drop (List.mem_of_mem_take hp));have kY:AllK κ ((arrOf st).extract (sa+na) (sa+na+nb')):=λp hp=>ak p (by rw[tY]at hp;exact List.mem_of_mem_drop (List.mem_of_mem_take hp));have sX:Srt κ ((arrOf st).extract (sa+k) (sa+na)):=by
  show List.Pairwise _ _;rw[tX];exact(zdr (by lia)).mp λi j a b d=>u1 i j (by (clear hs na1 nb1 sz g1 nb0 d;lia)) b (by (clear hs nb1 sz g1 nb0 a b;lia))
 have sY:Srt κ ((arrOf st).extract (sa+na) (sa+na+nb')):=by
  show List.Pairwise _ _;rw[tY];exact(zdr (by lia)).mp λi j a b d=>u2 i j a b (by (clear hs na1 sz hk1 kn a b;lia))
 have zX:((arrOf st).extract (sa+k) (sa+na)).size=na-k:=by rw[Array.size_extract];lia
 have zY:((arrOf st).extract (sa+na) (sa+na+nb')).size=nb':=by rw[Array.size_extract];(clear hk1 kn zX;lia)
 have oX:1<=((arrOf st).extract (sa+k) (sa+na)).size:=by rw[zX];(clear hs nb1 sz g1 nb0 zY;lia)
 have oY:1<=((arrOf st).extract (sa+na) (sa+na+nb')).size:=by rw[zY];omega
 have hl:∀x∈((arrOf st).extract (sa+na) (sa+na+nb')).toList,∀y,((arrOf st).extract (sa+k) (sa+na))[((arrOf st).extract (sa+k) (sa+na)).size-1]?=some y->le κ x y:=λx hx y hy=>by
  rw[tY]at hx;obtain⟨i,hi,ei⟩:=ko hx;have ey:y=pa:=by
   rw[<-Array.getElem?_toList,tX,zX,zeq (by (clear hs nb1 sz g1 nb0 zX zY oX oY hi;omega)),show sa+k+(na-k-1)=sa+na-1 by (clear hs nb1 sz g1 nb0 zX zY oX oY hi;lia),epa]at hy;exact(Option.some.inj hy).symm
  subst ey;have:=g3 i hi;rw[zab ei]at this;exact KeyOrd.kle_of_klt this
 have hf:∀p,((arrOf st).extract (sa+na) (sa+na+nb'))[0]?=some p->∀y∈((arrOf st).extract (sa+k) (sa+na)).toList,le κ p y:=λp hp y hy=>by
  have ep:p=b0:=by
   rw[<-Array.getElem?_toList,tY,zeq (by (clear hs na1 nb1 sz hk1 kn g1 zX oX;lia)),Nat.add_zero,eb0]at hp;exact(Option.some.inj hp).symm
  subst ep;rw[tX]at hy;obtain⟨i,hi,ei⟩:=ko hy;have:=hk3 (k+i) (by (clear hs na1 nb1 sz hk1 kn g1 nb0 zX zY oX oY hi;lia)) (by (clear hs nb1 sz g1 nb0 zX zY oX oY;omega));rw[zaa (by rw[show sa+(k+i)=sa+k+i by (clear hs na1 nb1 sz hk1 kn g1 nb0 zX zY oX oY hi;lia)];exact ei)]at this;exact KeyOrd.kle_of_klt (by simpa[KeyOrd.klt]using this)
 have fin:∀(r:Array Keyed) (z2:SortSt),Gm z z2->Mg κ ((arrOf st).extract (sa+k) (sa+na)) ((arrOf st).extract (sa+na) (sa+na+nb')) r ->
   Q (failedOf (SortSt.mk' (kindOf z2) (List.foldl (λa x=>a.setIfInBounds (sa+k+x.snd) x.fst) (arrOf z2) r.toList.zipIdx) (pendingOf z2) (gallopOf z2) (failedOf z2))).isNone (SortSt.mk' (kindOf z2) (List.foldl (λa x=>a.setIfInBounds (sa+k+x.snd) x.fst) (arrOf z2) r.toList.zipIdx) (pendingOf z2) (gallopOf z2) (failedOf z2)):=by
  intro r z2 gm hr;obtain⟨pm,sm⟩:=hr;rw[tX,tY]at pm;have ml:=zhx (κ:=κ) (l:=(arrOf st).toList) (sa:=sa) (na:=na) (nb:=nb) (k:=k) (nb':=nb') (M:=r.toList) (by simpa using (by (clear g1 nb0 zY oY;omega):sa+na+nb<=(arrOf st).size)) ((zdr (by (clear hk1 kn g1 nb0 zX zY oX oY;omega))).mp u1) ((zdr (by lia)).mp u2) kn g1 nb0
   (λx hx y hy=>by
    obtain⟨i,hi,ei⟩:=ko hx;obtain⟨j,hj,ej⟩:=ko hy;have:=hk2 i hi;rw[zaa ei]at this;refine le_trans (show le κ x b0 from by simpa[le,KeyOrd.kle]using this) ?_;have:=u2 (sa+na) (sa+na+j) (Nat.le_refl _) (by (clear hs nb1 sz hk1 kn g1 nb0 zX zY oX oY hi hj;lia)) (by (clear hs sz hk1 kn g1 nb0 zX zY oX oY hi;lia));rw[wb eb0,wb ej]at this;exact this)
   (λx hx y hy=>by
    obtain⟨i,hi,ei⟩:=ko hx;rw[List.drop_take,List.drop_drop]at hy;obtain⟨j,hj,ej⟩:=ko hy;have h5:=u1 (sa+i) (sa+na-1) (by (clear hs na1 nb1 sz hk1 kn g1 nb0 zX zY oX oY hi hj;lia)) (by (clear hs nb1 sz hk1 kn g1 nb0 zX zY oX oY hj;lia)) (by (clear hs nb1 sz hk1 kn g1 nb0 zX zY oX oY hi hj;omega));rw[wb ei,wb epa]at h5;have:=g4 (nb'+j) (by (clear hs na1 nb1 sz hk1 kn g1 zX zY oX oY hi hj;lia)) (by (clear hs na1 sz hk1 kn zX oX hi;lia));rw[zab (by rw[show sa+na+(nb'+j)=sa+na+nb'+j by (clear hs nb1 sz hk1 kn g1 zX zY oX oY hi hj;lia)];exact ej)]at this;exact le_trans (show le κ x pa from h5) this) pm sm
  obtain⟨m1,m2,m3⟩:=ml;have a2:arrOf z2=arrOf st:=gm.a.trans az;have wl:=zjf (sa+k) r.toList 0 (arrOf st) (by rw[m3];(clear zX oX;lia));rw[Nat.add_zero]at wl;rw[a2];generalize (List.foldl (λa x=>a.setIfInBounds (sa+k+x.snd) x.fst) (arrOf st) r.toList.zipIdx)=V at wl ⊢;have szw:V.size=a₀.size:=by rw[<-Array.length_toList,wl,m1.length_eq,Array.length_toList,sz]
  have nofail:failedOf z2=none:=gm.f.trans gz.fail;show Q (failedOf z2).isNone _;rw[nofail];refine q _ ⟨?_,gm.k.trans gz.kind,rfl⟩ (gm.p.trans pz) (λj hj=>?_) ?_
  ·show Array.Perm V _;rw[Array.perm_iff_toList_perm,wl];exact m1.trans (Array.perm_iff_toList_perm.mp g.perm)
  ·show V[j]?=_;rw[<-Array.getElem?_toList,wl,<-Array.getElem?_toList];rcases hj with hj|hj
   ·rw[List.append_assoc,List.getElem?_append_left (by simp;(clear g1 nb0 zX zY oX oY m3;lia)),List.getElem?_take_of_lt (by (clear hs na1 nb1 sz g1 nb0 zX zY oX oY m3 szw;lia))]
   ·have l1:(List.take (sa+k) (arrOf st).toList++r.toList).length=sa+k+r.toList.length:=by simp;(clear g1 nb0 zX zY oX oY m3 hj;lia)
    rw[List.getElem?_append_right (by rw[l1,m3];(clear hs sz zX oX szw;lia)),l1,List.getElem?_drop,show sa+k+r.toList.length+(j-(sa+k+r.toList.length))=j by rw[m3];(clear hs sz zX oX szw;lia)]
  ·refine(zdr (by show sa+(na+nb)<=V.size;(clear hk1 kn g1 nb0 zX zY oX oY m3;lia))).mpr ?_;show List.Pairwise _ (List.take _ (List.drop _ V.toList));rw[wl];exact m2
 refine zx (λ_=>?_) (λ_=>?_)
 ·exact wpS_bind (zku L gz.kind kX kY sX sY oX oY hl hf λr z2 gm hr=>wpS_bind (wpS_modify (wpS_bind (wpS_get (wpS_pure (fin r z2 gm hr))))))
 ·exact wpS_bind (zkv L gz.kind kX kY sX sY oX oY hl hf λr z2 gm hr=>wpS_bind (wpS_modify (wpS_bind (wpS_get (wpS_pure (fin r z2 gm hr))))))
end
end SQ
namespace SQ
open PySem PyProof.Rows
set_option autoImplicit false
def Cov(κ:KeyKind)(xs:Array Keyed):Nat->List (Nat×Nat×Nat)->Nat->Prop
 |at_,[],hi=>at_=hi
 |at_,(b,n,_)::r,hi=>b=at_/\1<=n/\Up κ xs at_ n/\Cov κ xs (at_+n) r hi
section
variable {κ:KeyKind}
theorem Cov.le{xs:Array Keyed}:∀{l:List (Nat×Nat×Nat)}{at_ hi:Nat},Cov κ xs at_ l hi->at_+l.length<=hi
 |[],at_,hi,h=>by have:at_=hi:=h;simp;lia
 |(b,n,p)::r,at_,hi,h=>by
  obtain⟨_,h1,_,h2⟩:=h;have:=h2.le;simp only[List.length_cons];lia
theorem Up.congr{xs ys:Array Keyed}{lo n:Nat}(h:∀k,lo<=k->k<lo+n->ys[k]?=xs[k]?)(u:Up κ xs lo n):Up κ ys lo n:=λi j a b c=>by
 rw[KK_congr (h i a (by omega)),KK_congr (h j (by lia) c)];exact u i j a b c
theorem Cov.congr{xs ys:Array Keyed}:∀{l:List (Nat×Nat×Nat)}{at_ hi:Nat},(∀k,at_<=k->k<hi->ys[k]?=xs[k]?)->Cov κ xs at_ l hi->Cov κ ys at_ l hi
 |[],_,_,_,h=>h
 |(b,n,p)::r,at_,hi,e,h=>by
  obtain⟨h0,h1,h2,h3⟩:=h;have:=h3.le;exact⟨h0,h1,Up.congr (λk a b=>e k a (by lia)) h2,h3.congr λk a b=>e k (by (clear h0 this;lia)) b⟩
theorem Cov.push{xs:Array Keyed}{n pw:Nat}:∀{l:List (Nat×Nat×Nat)}{at_ hi:Nat},Cov κ xs at_ l hi->1<=n->Up κ xs hi n->Cov κ xs at_ (l ++ [(hi,n,pw)]) (hi+n)
 |[],at_,hi,h,hn,u=>by
  have e:at_=hi:=h;subst e;exact⟨rfl,hn,u,rfl⟩
 |(b,m,p)::r,at_,hi,h,hn,u=>⟨h.1,h.2.1,h.2.2.1,h.2.2.2.push hn u⟩
theorem Cov.modify{xs:Array Keyed}{f:Nat×Nat×Nat->Nat×Nat×Nat}(hf:∀t,(f t).1=t.1/\(f t).2.1=t.2.1):∀{l:List (Nat×Nat×Nat)}{at_ hi:Nat} (i:Nat),Cov κ xs at_ l hi->Cov κ xs at_ (l.modify i f) hi
 |[],_,_,i,h=>by simpa using h
 |(b,n,p)::r,at_,hi,0,h=>by
  rw[List.modify_zero_cons];obtain⟨h1,h2⟩:=hf (b,n,p);generalize f (b,n,p)=t at h1 h2 ⊢;obtain⟨x,y,z⟩:=t;simp only at h1 h2;subst h1 h2;exact h
 |(b,n,p)::r,at_,hi,i+1,h=>by
  rw[List.modify_succ_cons];exact⟨h.1,h.2.1,h.2.2.1,h.2.2.2.modify hf i⟩
theorem Cov.pair{xs:Array Keyed}:∀{l:List (Nat×Nat×Nat)}{at_ hi:Nat} (i:Nat),Cov κ xs at_ l hi->i+1<l.length->∃sa na nb pw pw2,l[i]?=some (sa,na,pw)/\l[i+1]?=some (sa+na,nb,pw2)/\at_<=sa/\sa+na+nb<=hi/\1<=na/\1<=nb/\Up κ xs sa na/\Up κ xs (sa+na) nb /\
   ∀ys:Array Keyed,(∀k,(k<sa\/sa+na+nb<=k)->ys[k]?=xs[k]?)->Up κ ys sa (na+nb)->Cov κ ys at_ ((l.set i (sa,na+nb,pw)).eraseIdx (i+1)) hi
 |[],_,_,i,_,h=>by simp at h
 |[_],_,_,i,_,h=>by simp at h
 |(b,n,p)::(b2,n2,p2)::r,at_,hi,0,h,_=>by
  obtain⟨rfl,h1,h2,rfl,h3,h4,h5⟩:=h;have:=h5.le;refine⟨b,n,n2,p,p2,rfl,rfl,Nat.le_refl _,by lia,h1,h3,h2,h4,λys e u=>?_⟩;refine⟨rfl,by lia,u,?_⟩;rw[show b+(n+n2)=b+n+n2 by lia];exact h5.congr λk a _=>e k (.inr a)
 |(b,n,p)::t::r,at_,hi,i+1,h,hl=>by
  obtain⟨rfl,h1,h2,h3⟩:=h;obtain⟨sa,na,nb,pw,pw2,e1,e2,q0,q1,q2,q3,q4,q5,q6⟩:=h3.pair i (by simpa using hl);refine⟨sa,na,nb,pw,pw2,by simpa using e1,by simpa using e2,by (clear hl q1;lia),q1,q2,q3,q4,q5,λys e u=>?_⟩;rw[List.set_cons_succ,List.eraseIdx_cons_succ];exact⟨rfl,h1,Up.congr (λk a b=>e k (.inl (by (clear hl q1 q2 q3;lia)))) h2,q6 ys e u⟩
end
section
variable {prog:Program}{w:World}{A:Around}{E:Value->Shared->Prop}{s:Shared}{κ:KeyKind}{kd:SortKind}{a₀:Array Keyed}
theorem jh{st:SortSt}{i hi:Nat}{Q:Bool->SortSt->Prop}(L:vz prog w A s κ kd)(h0:KeysOf κ a₀)(g:SG kd a₀ st)(c:Cov κ (arrOf st) 0 (pendingOf st).toList hi)(hh:hi<=a₀.size)(hi1:i+1<(pendingOf st).size)
  (q:∀st',SG kd a₀ st'->Cov κ (arrOf st') 0 (pendingOf st').toList hi->(∀k,hi<=k->(arrOf st')[k]?=(arrOf st)[k]?)->(pendingOf st').size+1=(pendingOf st).size->Q true st'):wpS (model prog w) A E s (mergeAt' i) Q st:=by
 obtain⟨sa,na,nb,pw,pw2,e1,e2,q0,q1,q2,q3,q4,q5,q6⟩:=c.pair i (by simpa using hi1);refine zkw L h0 g (by simpa using e1) (by simpa using e2) (by lia) q2 q3 q4 q5 λst' g' p' o' u'=>q st' g' ?_ (λk hk=>o' k (.inr (by (clear hh hi1;lia)))) ?_
 ·rw[p'];have:=q6 (arrOf st') o' u';simpa using this
 ·rw[p',<-Array.length_toList,Array.toList_eraseIdxIfInBounds,Array.toList_setIfInBounds,List.length_eraseIdx,List.length_set,Array.length_toList,if_pos hi1];(clear hh q0 q1 q2 q3;lia)
theorem zhy{st:SortSt}{Q:Unit->SortSt->Prop}(L:vz prog w A s κ kd)(h0:KeysOf κ a₀)(g:SG kd a₀ st)(hp:pendingOf st = #[])(h2:2<=a₀.size)(q:∀st',SG kd a₀ st'->SortedToK κ (arrOf st') a₀.size->Q () st'):wpS (model prog w) A E s sortRuns' Q st:=by
 rw[sortRuns'_eq];refine wpS_bind (wpS_get ?_);dsimp only;simp only[g.sz];generalize minRun' a₀.size a₀.size 0=mr;refine wpS_bind (wpS_mono (wpS_forRange (I:=λx c z=>∃lo,c=(none,lo)/\SG kd a₀ z/\Cov κ (arrOf z) 0 (pendingOf z).toList lo/\lo<=a₀.size/\x<=lo)
  (Q:=λc z=>c=(none,a₀.size)/\SG kd a₀ z/\Cov κ (arrOf z) 0 (pendingOf z).toList a₀.size) (λx c z hx1 hx2 h=>?_) (λc z h=>?_) ⟨0,rfl,g,by rw[hp];rfl,by lia,by lia⟩) (λc z h=>?_))
 ·obtain⟨lo,rfl,gz,cv,l1,l2⟩:=h;dsimp only;refine zx (λc=>?_) (λc=>?_)
  ·have:lo=a₀.size:=by lia
   subst this;exact wpS_pure ⟨rfl,gz,cv⟩
  refine wpS_bind (zhw L h0 gz (by lia) (by lia) λk z1 g1 mv k1 k2 u=>?_);have cv1:Cov κ (arrOf z1) 0 (pendingOf z1).toList lo:=by rw[mv.pend];exact cv.congr λj _ hj=>mv.out j (.inl hj)
  dsimp only;refine zx (λcm=>?_) (λcm=>?_)
  ·refine wpS_bind (wpS_lift (wpAny_rule ⟨rfl,?_⟩));refine wpS_bind (zmy L h0 g1 (by lia) (by (clear h2 hx1 hx2 l1 l2 c;lia)) u λz2 g2 mv2 u2=>?_);rw[if_neg (by decide)];have cv2:Cov κ (arrOf z2) 0 (pendingOf z2).toList lo:=by rw[mv2.pend];exact cv1.congr λj _ hj=>mv2.out j (.inl hj)
   refine wpS_bind (wpS_get ?_)
   cases hb:(pendingOf z2).back? with
   |none=>
    dsimp only;refine wpS_bind (wpS_modify (wpS_pure ⟨lo+(min (a₀.size-lo) mr),rfl,⟨g2.perm,g2.kind,g2.fail⟩,?_,by omega,by lia⟩));show Cov κ (arrOf z2) 0 ((pendingOf z2).push (lo,min (a₀.size-lo) mr,0)).toList (lo+(min (a₀.size-lo) mr));rw[Array.toList_push];exact cv2.push (by (clear h2 hx1 hx2 l1 l2 c;lia)) u2
   |some t=>
    obtain⟨s1,n1,pp⟩:=t;dsimp only;refine wpS_bind (wpS_mono (wpS_forRange (I:=λy c z'=>c=(none,())/\SG kd a₀ z'/\Cov κ (arrOf z') 0 (pendingOf z').toList lo/\Up κ (arrOf z') lo (min (a₀.size-lo) mr))
     (Q:=λc z'=>c=(none,())/\SG kd a₀ z'/\Cov κ (arrOf z') 0 (pendingOf z').toList lo/\Up κ (arrOf z') lo (min (a₀.size-lo) mr)) (λy c z' hy1 hy2 h=>?_) (λc z' h=>h) ⟨rfl,g2,cv2,u2⟩) (λc z' h=>?_))
    ·obtain⟨rfl,g',c',u'⟩:=h;refine wpS_bind (wpS_get ?_)
     cases e:(if (pendingOf z').size > 1 then (pendingOf z')[(pendingOf z').size-2]? else none) with
     |none=>
      dsimp only;exact wpS_pure ⟨rfl,g',c',u'⟩
     |some t=>
      obtain⟨t1,t2,older⟩:=t;dsimp only;have big:(pendingOf z').size > 1:=by
       by_cases z:(pendingOf z').size > 1
       ·exact z
       ·rw[if_neg z]at e;cases e
      refine zx (λ_=>wpS_pure ⟨rfl,g',c',u'⟩) (λ_=>wpS_bind (jh L h0 g' c' (by omega) (by (clear hx1 hx2 l2 k1 k2 cm hy1 hy2;omega)) λz3 g3 c3 o3 _=>?_));rw[if_neg (by decide)];exact wpS_pure ⟨rfl,g3,c3,Up.congr (λk a _=>o3 k a) u'⟩
    ·obtain⟨rfl,g',c',u'⟩:=h;dsimp only;refine wpS_bind (wpS_modify (wpS_bind (wpS_modify (wpS_pure ⟨lo+(min (a₀.size-lo) mr),rfl,⟨g'.perm,g'.kind,g'.fail⟩,?_,by omega,by lia⟩))));show Cov κ (arrOf z') 0 (((pendingOf z').modify ((pendingOf z').size-1) _).push (lo,min (a₀.size-lo) mr,0)).toList (lo+(min (a₀.size-lo) mr));rw[Array.toList_push,Array.toList_modify];refine Cov.push (Cov.modify ?_ _ c') (by lia) u';exact λt=>⟨rfl,rfl⟩
  ·refine wpS_bind (wpS_get ?_)
   cases hb:(pendingOf z1).back? with
   |none=>
    dsimp only;refine wpS_bind (wpS_modify (wpS_pure ⟨lo+(k),rfl,⟨g1.perm,g1.kind,g1.fail⟩,?_,by lia,by lia⟩));show Cov κ (arrOf z1) 0 ((pendingOf z1).push (lo,k,0)).toList (lo+(k));rw[Array.toList_push];exact cv1.push k1 u
   |some t=>
    obtain⟨s1,n1,pp⟩:=t;dsimp only;refine wpS_bind (wpS_mono (wpS_forRange (I:=λy c z'=>c=(none,())/\SG kd a₀ z'/\Cov κ (arrOf z') 0 (pendingOf z').toList lo/\Up κ (arrOf z') lo (k))
     (Q:=λc z'=>c=(none,())/\SG kd a₀ z'/\Cov κ (arrOf z') 0 (pendingOf z').toList lo/\Up κ (arrOf z') lo (k)) (λy c z' hy1 hy2 h=>?_) (λc z' h=>h) ⟨rfl,g1,cv1,u⟩) (λc z' h=>?_))
    ·obtain⟨rfl,g',c',u'⟩:=h;refine wpS_bind (wpS_get ?_)
     cases e:(if (pendingOf z').size > 1 then (pendingOf z')[(pendingOf z').size-2]? else none) with
     |none=>
      dsimp only;exact wpS_pure ⟨rfl,g',c',u'⟩
     |some t=>
      obtain⟨t1,t2,older⟩:=t;dsimp only;have big:(pendingOf z').size > 1:=by
       by_cases z:(pendingOf z').size > 1
       ·exact z
       ·rw[if_neg z]at e;cases e
      refine zx (λ_=>wpS_pure ⟨rfl,g',c',u'⟩) (λ_=>wpS_bind (jh L h0 g' c' (by omega) (by omega) λz3 g3 c3 o3 _=>?_));rw[if_neg (by decide)];exact wpS_pure ⟨rfl,g3,c3,Up.congr (λk a _=>o3 k a) u'⟩
    ·obtain⟨rfl,g',c',u'⟩:=h;dsimp only;refine wpS_bind (wpS_modify (wpS_bind (wpS_modify (wpS_pure ⟨lo+(k),rfl,⟨g'.perm,g'.kind,g'.fail⟩,?_,by lia,by lia⟩))));show Cov κ (arrOf z') 0 (((pendingOf z').modify ((pendingOf z').size-1) _).push (lo,k,0)).toList (lo+(k));rw[Array.toList_push,Array.toList_modify];refine Cov.push (Cov.modify ?_ _ c') k1 u';exact λt=>⟨rfl,rfl⟩
 ·obtain⟨lo,rfl,gz,cv,l1,l2⟩:=h;have:lo=a₀.size:=by lia
  subst this;exact⟨rfl,gz,cv⟩
 ·obtain⟨rfl,gz,cv⟩:=h;dsimp only
  refine wpS_bind (wpS_mono (wpS_forRange (I:=λx c z=>c=(none,())/\SG kd a₀ z/\Cov κ (arrOf z) 0 (pendingOf z).toList a₀.size/\(pendingOf z).size+x<=a₀.size+1)
   (Q:=λc z=>c=(none,())/\SG kd a₀ z/\Cov κ (arrOf z) 0 (pendingOf z).toList a₀.size/\(pendingOf z).size<=1) (λx c z hx1 hx2 h=>?_) (λc z h=>?_) ⟨rfl,gz,cv,by have:=cv.le;simp only[Array.length_toList]at this;lia⟩) (λc z h=>?_))
  ·obtain⟨rfl,gz,cv,hz⟩:=h;refine wpS_bind (wpS_get ?_);refine zx (λc=>wpS_pure ⟨rfl,gz,cv,c⟩) (λc=>?_);refine wpS_bind (jh L h0 gz cv (Nat.le_refl _) ?_ λz2 g2 c2 _ p2=>?_)
   ·repeat' split
    all_goals omega
   ·rw[if_neg (by decide)];exact wpS_pure ⟨rfl,g2,c2,by lia⟩
  ·obtain⟨rfl,gz,cv,hz⟩:=h;exact⟨rfl,gz,cv,by lia⟩
  ·obtain⟨rfl,gz,cv,hz⟩:=h;refine wpS_pure (q z gz λi j a b=>?_)
   have:∀l:List (Nat×Nat×Nat),l.length<=1->Cov κ (arrOf z) 0 l a₀.size->Up κ (arrOf z) 0 a₀.size:=by
    intro l hl c
    match l,hl,c with
    |[],_,c=>have:0=a₀.size:=c;lia
    |[(b,n,p)],_,c=>
     obtain⟨_,_,u,e⟩:=c;have e':0+n=a₀.size:=e;rw[Nat.zero_add]at e';rw[<-e'];exact u
   exact this _ (by simpa using hz) cv i j (Nat.zero_le _) a (by lia)
end
end SQ
namespace SQ
open PySem PyProof.Rows
set_option autoImplicit false
section
variable {prog:Program}{w:World}{A:Around}{E:Value->Shared->Prop}{s:Shared}
theorem zb9{κ:KeyKind}{kd:SortKind}{a:Addr}{vs:List Value}{n:Nat}{P:Fin->Shared->Prop}(ho:s.heap.get? a=some (seqObj "list" vs.toArray n))(hz:vs.length<=sizeLine)
  (L:∀h':Heap,(∀b o,b≠a->s.heap.get? b=some o->h'.get? b=some o)->vz prog w A { s with heap:=h' } κ kd) (h0:KeysOf κ (pairsOf vs))
  (hkk:2<=vs.length->∀(h':Heap) (Q:SortKind->Shared->Prop),(∀b o,b≠a->s.heap.get? b=some o->h'.get? b=some o)->Q kd { s with heap:=h' }->wpAny (model prog w) A (keyKind' vs.toArray) Q E { s with heap:=h' })
  (h:∀out:Array Keyed,out.Perm (pairsOf vs)->SortedToK κ out (pairsOf vs).size->P (.done (.ret .none)) { s with heap:=sortedHeap s.heap a vs (out.map (·.2)) }) :
  wpAny (model prog w) A (Builtin.«list.sort» ⟨[.ref a],[]⟩) P E s:=by
 rw[list_sort_plain];have la:a<s.heap.objs.size:=Heap.lt_size ho;refine wpAny_bind (listItems_at ho rfl ?_);refine wpAny_bind (listUpdate_at ho rfl ?_ (by simpa using hz) (Nat.zero_le _));obtain⟨e1,g1⟩:∃e1,(s.heap.update a (Obj.mapSeq λ_=>#[])).get? a=some (seqObj "list" #[] e1):=⟨_,get?_update_seq ho (λ_=>#[])⟩
 refine wpAny_bind (seqEpoch_at g1 rfl ?_);refine wpAny_bind (wpAny_newTuple ?_ (by simpa using hz));refine wpAny_bind (wpAny_newList ?_ (Nat.zero_le _));refine wpAny_holding ?_;have g6:(((s.heap.update a (Obj.mapSeq λ_=>#[])).push (seqObj "tuple" vs.toArray 0)).push (seqObj "list" #[] 0)).get? a=some (seqObj "list" #[] e1):=Heap.get?_push_of_some _ (Heap.get?_push_of_some _ g1);have keep:∀b o,b≠a->s.heap.get? b=some o->(((s.heap.update a (Obj.mapSeq λ_=>#[])).push (seqObj "tuple" vs.toArray 0)).push (seqObj "list" #[] 0)).get? b=some o:=λb o nb e=>Heap.get?_push_of_some _ (Heap.get?_push_of_some _ (by rw[Heap.get?_update_ne _ _ _ _ nb];exact e));show wpAny (model prog w) A _ P E { s with heap:=((s.heap.update a (Obj.mapSeq λ_=>#[])).push (seqObj "tuple" vs.toArray 0)).push (seqObj "list" #[] 0) };dsimp only;have sz:vs.toArray.size=vs.length:=by simp
 by_cases c:vs.toArray.size<2
 ·rw[if_pos c,if_pos c];refine wpAny_bind (wpAny_pure ?_);rw[StateT.run_pure];refine wpAny_bind (wpAny_pure ?_);dsimp only;refine wpAny_bind (seqEpoch_at g6 rfl ?_);refine wpAny_bind (listUpdate_at g6 rfl ?_ (Nat.zero_le _) (by show(Array.map _ (pairsOf vs)).size<=_;rw[Array.size_map,pairsOf_size,sizeLine_eq];lia));simp only[bne_self_eq_false,Bool.false_eq_true,if_false];refine wpAny_pure (h (vs.toArray.zip vs.toArray) (Array.Perm.refl _) λi j hij hj=>?_);have:i=j:=by rw[pairsOf_size]at hj;lia
  subst this;exact KeyOrd.kle_refl _
 ·rw[if_neg c,if_neg c];refine wpAny_bind (hkk (by lia) _ _ keep ?_)
  refine wpAny_bind (wpAny_mono (zhy (κ:=κ) (kd:=kd) (a₀:=pairsOf vs) (st:=SortSt.mk' kd (vs.toArray.zip vs.toArray) #[] 7 none)
   (Q:=λ_ st'=>(arrOf st').Perm (pairsOf vs)/\failedOf st'=none/\SortedToK κ (arrOf st') (pairsOf vs).size) (L _ keep)
   h0 ⟨Array.Perm.refl _,rfl,rfl⟩ rfl (by rw[pairsOf_size];lia) λst' g' s'=>⟨g'.perm,g'.fail,s'⟩) ?_ λ_ _ e=>e)
  rintro ⟨⟨⟩,st'⟩ s' ⟨rfl,hp,hf,hs⟩;dsimp only;refine wpAny_bind (seqEpoch_at g6 rfl ?_);refine wpAny_bind (listUpdate_at g6 rfl ?_ (Nat.zero_le _) (by
   show(Array.map _ (arrOf st')).size<=_;rw[Array.size_map,hp.size_eq,pairsOf_size];lia))
  rw[hf];simp only[bne_self_eq_false,Bool.false_eq_true,if_false];exact wpAny_pure (h (arrOf st') hp hs)
theorem zkx{Q:List Value->Shared->Prop}{l:Addr}{T:String}{o:Obj}{xs:Array Value}{n:Nat}(hT:T = "list" \/ T = "tuple")(ho:s.heap.get? l=some o)(hc:o.cls=.type T)(hd:o.data=.seq xs n)(hz:xs.size<=sizeLine)
  (q:Q xs.toList { s with heap:=(s.heap.push (seqObj "list" #[] 0)).update s.heap.objs.size (Obj.mapSeq (·++xs)) }):wpAny (model prog w) A (collect (.ref l)) Q E s:=by
 unfold collect;refine wpAny_bind (wpAny_runValue (codeAny_builtin PySem.F.entry_proto_collect ?_));rw[Around.under_plainId PySem.F.plain_proto_collect _];show wpAny _ A.in1 (newList [] >>= λz=>again (.builtin "list.__iadd__" ⟨[z,.ref l],[]⟩)) _ _ s;refine wpAny_bind (wpAny_newObj_type ?_);refine wpAny_pure ⟨plainId_quiet PySem.F.plain_list_iadd _,codeAny_builtin PySem.F.entry_list_iadd ?_⟩;rw[Around.under_plainId PySem.F.plain_list_iadd _];show wpAny _ A.in1 (Builtin.List.listExtendWith (.ref s.heap.objs.size) (.ref l) (.ref s.heap.objs.size)) _ _ _;have g1:(s.heap.push { cls:=.type "list",data:=.seq ([]:List Value).toArray }).get? s.heap.objs.size=some { cls:=.type "list",data:=.seq #[] 0 }:=Heap.get?_push_size _ rfl;have g2:=Heap.get?_update_self (Obj.mapSeq (·++xs)) g1 rfl;have fin:wpAny (model prog w) A (match Value.ref s.heap.objs.size with
   |Value.ref z=>do
    match (<-load z).data with
     |Data.seq ys _=>pure ys.toList
     |_=>unsupported "internal:collect"
   |_=>unsupported "internal:collect") Q E { s with heap:=(s.heap.push { cls:=.type "list",data:=.seq ([]:List Value).toArray }).update s.heap.objs.size (Obj.mapSeq (·++xs)) }:=by
  show wpAny _ A (load s.heap.objs.size >>= _) _ _ _;refine wpAny_bind (wpAny_load g2 (wpAny_pure ?_));show Q ((#[]:Array Value)++xs).toList _;rw[show((#[]:Array Value)++xs).toList=xs.toList by simp];exact q
 refine wpAny_mono (wpAny_extend_seq (hsz:=hz) (A:=A) (R:=λr s'=>r=.ok (.ret (.ref s.heap.objs.size))/\s' = { s with heap:=(s.heap.push { cls:=.type "list",data:=.seq ([]:List Value).toArray }).update s.heap.objs.size (Obj.mapSeq (·++xs)) })
  (s:={ s with heap:=s.heap.push { cls:=.type "list",data:=.seq ([]:List Value).toArray } }) _ l _ 0 hT g1 (Heap.get?_push_of_some _ ho) hc hd ⟨rfl,rfl⟩) (λf s' z=>?_) (λe s' z=>absurd z.1 (by simp))
 cases f with
 |done f=>
  obtain⟨e,rfl⟩:=z
  cases e;exact fin
 |again c'=>exact⟨z.1,codeAny_mono z.2 λr s2 y=>by obtain⟨rfl,rfl⟩:=y;exact fin⟩
theorem zpr(A:Around):A.in1.in1.units<=A.units+8:=by show A.units+1+1<=_;lia
theorem zm3{κ:KeyKind}{kd:SortKind}{l:Addr}{T:String}{o:Obj}{vs:List Value}{n:Nat}{Q:Value->Shared->Prop}(hT:T = "list" \/ T = "tuple")(ho:s.heap.get? l=some o)(hc:o.cls=.type T)(hd:o.data=.seq vs.toArray n)(hz:vs.length<=sizeLine)
  (L:∀(A':Around) (h':Heap),A'.units<=A.units+8->(∀b o,s.heap.get? b=some o->h'.get? b=some o)->vz prog w A' { s with heap:=h' } κ kd) (h0:KeysOf κ (pairsOf vs))
  (hkk:2<=vs.length->∀(A':Around) (E':Value->Shared->Prop) (h':Heap) (Q:SortKind->Shared->Prop),(∀b o,s.heap.get? b=some o->h'.get? b=some o)->Q kd { s with heap:=h' }->wpAny (model prog w) A' (keyKind' vs.toArray) Q E' { s with heap:=h' })
  (h:∀(out:Array Keyed) (h':Heap) (r:Addr) (e:Nat),out.Perm (pairsOf vs)->SortedToK κ out (pairsOf vs).size->s.heap.objs.size<=r->h'.get? r=some (seqObj "list" (out.map (·.2)) e)->(∀b o,s.heap.get? b=some o->h'.get? b=some o)->Q (.ref r) { s with heap:=h' }) :
  wpAny (model prog w) A (call (.builtin "sorted") [.ref l]) Q E s:=by
 refine Calls.call_function_entry kind_sorted plain_sorted entry_sorted (args_sorted1 _) ?_;unfold Builtin.«sorted»;refine wpAny_bind (m:=checkCount "sorted" 1 1 _) (wpAny_pure ?_);refine wpAny_bind (zkx hT ho hc hd (by simpa using hz) ?_);rw[List.toList_toArray];refine wpAny_bind (wpAny_newList ?_ hz);have es:((s.heap.push (seqObj "list" #[] 0)).update s.heap.objs.size (Obj.mapSeq (·++vs.toArray))).objs.size=s.heap.objs.size+1:=by rw[Heap.size_update,size_push']
 have gL:(((s.heap.push (seqObj "list" #[] 0)).update s.heap.objs.size (Obj.mapSeq (·++vs.toArray))).push (seqObj "list" vs.toArray 0)).get? (s.heap.objs.size+1)=some (seqObj "list" vs.toArray 0):=by rw[<-es];exact Heap.get?_push_size _ rfl
 have k2:∀b o,s.heap.get? b=some o->(((s.heap.push (seqObj "list" #[] 0)).update s.heap.objs.size (Obj.mapSeq (·++vs.toArray))).push (seqObj "list" vs.toArray 0)).get? b=some o:=λb o e=>
  Heap.get?_push_of_some _ (by rw[Heap.get?_update_ne _ _ _ _ (Nat.ne_of_lt (Heap.lt_size e))];exact Heap.get?_push_of_some _ e)
 have nb:∀b o,s.heap.get? b=some o->b≠s.heap.objs.size+1:=λb o e=>Nat.ne_of_lt (Nat.lt_succ_of_lt (Heap.lt_size e));show wpAny _ _ _ _ _ { s with heap:=((s.heap.push (seqObj "list" #[] 0)).update s.heap.objs.size (Obj.mapSeq (·++vs.toArray))).push (seqObj "list" vs.toArray 0) };rw[es];refine wpAny_bind (wpAny_holding (wpAny_call_entry slot_list_sort ⟨_,gL,rfl⟩ entry_list_sort (zb9 (κ:=κ) (kd:=kd) gL hz (λh' k'=>L _ h' (zpr A) λb o e=>k' b o (nb b o e) (k2 b o e)) h0 (λh2 h' Q k' q=>hkk h2 _ _ h' Q (λb o e=>k' b o (nb b o e) (k2 b o e)) q) λout p1 p2=>⟨_,rfl,?_⟩) (args_list_sort _)));refine wpAny_pure ⟨_,rfl,?_⟩;obtain⟨e,he⟩:=sortedAll_at s.heap vs (out.map (·.2));exact h out _ _ e p1 p2 (Nat.le_succ _) he λb o z=>sortedAll_old z
end
end SQ
namespace SQ
open PySem PyProof.Rows
set_option autoImplicit false
def zu8(h:Heap)(v:Value)(is:List Int):Prop:=∃a its,v=.ref a/\IsTup h a its/\IntsAre its.toList is
open Classical in
noncomputable def zs5 (h:Heap) (v:Value):Option (List Int):=if x:∃is,zu8 h v is then some x.choose else none
@[reducible] noncomputable def zu9 (h:Heap):KeyKind where
 α:=List Int
 blt a b:=decide (a<b)
 irrefl a:=by simpa using List.lt_irrefl a
 trans a b c h1 h2:=by simp only[decide_eq_true_eq]at *;exact List.lt_trans h1 h2
 negTrans a b c h:=by
  simp only[decide_eq_true_eq]at *
  by_cases c:a<b
  ·exact .inl c
  ·exact .inr (List.lt_of_le_of_lt (List.not_lt.mp c) h)
 total a b h1 h2:=by simp only[decide_eq_false_iff_not]at *;exact List.le_antisymm (List.not_lt.mp h2) (List.not_lt.mp h1)
 keyOf v:=zs5 h v
 dflt:=[]
section
variable {prog:Program}{w:World}{A:Around}{E:Value->Shared->Prop}{s:Shared}
theorem zhz{a b:Int}{t u:Tok}{f:Bool}{Q:Bool->Shared->Prop}(h:Q (decide (a<b)) s):wpAny (model prog w) A (oneLt' f (.int a t) (.int b u)) Q E s:=by
 cases f with
 |true=>exact oneLt_int h
 |false=>
  rw[oneLt'_eq];rw[if_neg (by decide)];have:=CmpOf.ints_lt (prog:=prog) (w:=w) (A:=A) (P:=λi v=>(i=0/\v=.int a t)\/(i=1/\v=.int b u)) (λi=>if i=0 then a else b) (λi v hv=>by
   rcases hv with⟨rfl,rfl⟩ |⟨rfl,rfl⟩
   ·exact⟨t,rfl⟩
   ·exact⟨u,rfl⟩)
  exact wpAny_bind (this 0 1 _ _ s _ E (.inl ⟨rfl,rfl⟩) (.inr ⟨rfl,rfl⟩) (wpAny_truthy_bool h))
end
end SQ
namespace SQ
open PySem PyProof.Rows
set_option autoImplicit false
inductive All2{α β:Type}(R:α->β->Prop):List α->List β->Prop
 |nil:All2 R [] []
 |cons {a:α}{b:β}{as:List α}{bs:List β} (h:R a b) (t:All2 R as bs):All2 R (a::as) (b::bs)
theorem All2.mem{α β:Type}{R:α->β->Prop}{as:List α}{bs:List β}(h:All2 R as bs){a:α}(ha:a∈as):∃b∈bs,R a b:=by
 induction h with
 |nil=>cases ha
 |cons h _ ih=>
  rcases List.mem_cons.mp ha with rfl|ha
  ·exact⟨_,List.mem_cons_self,h⟩
  ·obtain⟨b,hb,r⟩:=ih ha;exact⟨b,List.mem_cons_of_mem _ hb,r⟩
section
variable {prog:Program}{w:World}{A:Around}{E:Value->Shared->Prop}{s:Shared}
theorem zac{κ:KeyKind}{vs:List Value}(h:∀v∈vs,∃a,κ.keyOf v=some a):KeysOf κ (pairsOf vs):=λp hp=>by
 rw[pairsOf_toList]at hp;exact h _ (mem_zip_self hp).2
theorem zds{κ:KeyKind}{vs:List Value}{out:Array Keyed}(p:out.Perm (pairsOf vs))(so:SortedToK κ out (pairsOf vs).size)(hk:∀v∈vs,∃a,κ.keyOf v=some a):
  (out.map (·.2)).toList.Perm vs/\∃ks:List κ.α,All2 (λv k=>κ.keyOf v=some k) (out.map (·.2)).toList ks/\ks.Pairwise κ.kle:=by
 have pl:=Array.perm_iff_toList_perm.mp p;rw[pairsOf_toList]at pl;have diag:∀x∈out.toList,x.1=x.2/\x.1∈vs:=λx hx=>mem_zip_self (pl.mem_iff.mp hx);refine⟨?_,out.toList.map λx=>(κ.keyOf x.1).getD κ.dflt,?_,?_⟩
 ·rw[Array.toList_map];have:=pl.map (·.2)
  rwa [show(vs.zip vs).map (·.2)=vs by rw[List.map_snd_zip (Nat.le_refl _)]]at this
 ·rw[Array.toList_map];clear so p pl;generalize out.toList=l at diag
  induction l with
  |nil=>exact .nil
  |cons x l ih=>
   refine .cons ?_ (ih λy hy=>diag y (List.mem_cons_of_mem _ hy));obtain⟨e,m⟩:=diag x List.mem_cons_self;obtain⟨a,ea⟩:=hk _ m;show κ.keyOf x.2=some ((κ.keyOf x.1).getD κ.dflt);rw[<-e,ea];rfl
 ·rw[List.pairwise_map,List.pairwise_iff_getElem];intro i j h1 h2 hij;have h1':i<out.size:=by simpa using h1
  have h2':j<out.size:=by simpa using h2
  have:=so i j (Nat.le_of_lt hij) (by rw[<-p.size_eq];exact h2');unfold KK at this;rw[Array.getElem?_eq_getElem h1',Array.getElem?_eq_getElem h2']at this;simpa using this
end
end SQ
namespace L2
open PySem PySem.Spec PyProof.Rows SQ
def zf4(tss:List (List Int)):List (List Int):=tss.mergeSort (λa b=>!decide (b<a))
def tD(is:List Int):D:=.tuple (is.map PyData.int)
theorem ji(tss:List (List Int)):(zf4 tss).Perm tss:=List.mergeSort_perm _ _
theorem zky{a b c:List Int}(h1:¬ b<a)(h2:¬ c<b):¬ c<a:=λh=>h1 (List.lt_of_le_of_lt (List.not_lt.mp h2) h)
theorem zf5(tss:List (List Int)):(zf4 tss).Pairwise λa b=>¬ b<a:=by
 have:=List.pairwise_mergeSort (le:=λa b:List Int=>!decide (b<a)) (λa b c h1 h2=>by
  simp only[Bool.not_eq_true',decide_eq_false_iff_not]at *;exact zky h1 h2) (λa b=>by
  simp only[Bool.or_eq_true,Bool.not_eq_true',decide_eq_false_iff_not]
  by_cases c:b<a
  ·exact .inr λz=>List.lt_irrefl _ (List.lt_trans z c)
  ·exact .inl c) tss
 exact this.imp λh=>by simpa using h
theorem zca{ss tss:List (List Int)}(p:ss.Perm tss)(h:ss.Pairwise λa b=>¬ b<a):ss=zf4 tss:=(p.trans (ji tss).symm).eq_of_pairwise (λa b _ _ h3 h4=>List.le_antisymm (List.not_lt.mp h3) (List.not_lt.mp h4)) h (zf5 tss)
theorem zar{K:PySem.W.Frag}{H:Hp}{us us':List Value}(p:us'.Perm us):∀{vs:List V}{ds:List D},Vals vs us->Reps K H ds vs->∃vs' ds',Vals vs' us'/\Reps K H ds' vs'/\ds'.Perm ds:=by
 induction p with
 |nil=>intro vs ds r rp;exact⟨vs,ds,r,rp,.refl _⟩
 |cons u p ih=>
  intro vs ds r rp
  cases r with
  |cons r1 r2=>
   cases rp with
   |cons q1 q2=>
    obtain⟨vs',ds',a1,a2,a3⟩:=ih r2 q2;exact⟨_,_,.cons r1 a1,.cons q1 a2,a3.cons _⟩
 |swap u v l=>
  intro vs ds r rp
  cases r with
  |cons r1 r2=>
   cases r2 with
   |cons r3 r4=>
    cases rp with
    |cons q1 q2=>
     cases q2 with
     |cons q3 q4=>exact⟨_,_,.cons r3 (.cons r1 r4),.cons q3 (.cons q1 q4),.swap _ _ _⟩
 |trans p1 p2 ih1 ih2=>
  intro vs ds r rp;obtain⟨vs1,ds1,a1,a2,a3⟩:=ih2 r rp;obtain⟨vs2,ds2,b1,b2,b3⟩:=ih1 a1 a2;exact⟨vs2,ds2,b1,b2,b3.trans a3⟩
section
variable {X:Cx}
def deI:D->Int
 |.int i=>i
 |_=>0
def deT:D->List Int
 |.tuple xs=>xs.map deI
 |_=>[]
theorem zm4(is:List Int):deT (tD is)=is:=by
 show(is.map PyData.int).map deI=is;rw[List.map_map];exact(List.map_congr_left λa _=>rfl).trans (List.map_id _)
theorem zs6(a b:List Int)(h:tD a=tD b):a=b:=by rw[<-zm4 a,h,zm4]
end
end L2
namespace L2
open PySem PySem.Spec PyProof.Rows
namespace RV
theorem zwe:Manifest.owners.lookup (String.ofList ['d','e','s','r','e','v','e','r'].reverse)=some Manifest.sig_reversed:=by kernel_rfl
theorem sNext:Slot "reversed" "__next__" "reversed.__next__" := .of (owner := "reversed") (n := "__next__") (by rw[typeLookup_type,builtinLookup_eq_fast];kernel_rfl) (by decide +kernel) (by decide +kernel) (by decide +kernel) (by first|exact .inl (by decide +kernel)|exact .inr (by decide +kernel)) (by rw[isSubtype_type];kernel_rfl)
theorem zqz:Slot "reversed" "__iter__" "reversed.__iter__" := .of (owner := "reversed") (n := "__iter__") (by rw[typeLookup_type,builtinLookup_eq_fast];kernel_rfl) (by decide +kernel) (by decide +kernel) (by decide +kernel) (by first|exact .inl (by decide +kernel)|exact .inr (by decide +kernel)) (by rw[isSubtype_type];kernel_rfl)
theorem zva(a:Value):argsOk "reversed.__iter__" ⟨[a],[]⟩:=by
 unfold argsOk;rw[signature?_of (id := "reversed.__iter__") (n:=['_','_','r','e','t','i','_','_']) (o:=['d','e','s','r','e','v','e','r']) (by kernel_rfl) zwe];kernel_rfl
theorem zvb:entryFor table "reversed.__iter__" = some Builtin.«dict_keyiterator.__iter__»:=entryFor_alias (id' := "dict_keyiterator.__iter__") (by kernel_rfl) (by first|rfl|decide +kernel |(unfold String.splitOn;simp +decide [String.splitOnAux])) (by decide +kernel) (by kernel_rfl)
end RV
namespace RV
def ob(l:Addr)(i:Int):Obj:={ cls:=.type "reversed",data:=.fields #[.ref l,rawInt i] }
def Is(h:Heap)(a l:Addr)(i:Int):Prop:=∃o,h.get? a=some o/\o.cls=.type "reversed" /\ o.data=.fields #[.ref l,rawInt i]
theorem Is.typeIs{s:Shared}{a l:Addr}{i:Int}(x:Is s.heap a l i):s.TypeIs (.ref a) "reversed" := let ⟨o,ho,hc,_⟩:=x;⟨o,ho,hc⟩
section
variable {prog:Program}{w:World}{A:Around}{E:Value->Shared->Prop}{s:Shared}
theorem iter{it l:Addr}{i:Int}{Q:Value->Shared->Prop}(hit:Is s.heap it l i)(h:Q (.ref it) s):wpAny (model prog w) A (pyIter (.ref it)) Q E s:=by
 refine wpAny_pyIter_slot hit.typeIs zqz (wpAny_call_entry zqz hit.typeIs zvb ?_ (zva _));show wpAny _ _ (ret (.ref it)) _ _ s;exact wpAny_pure ⟨_,rfl, "reversed",_,hit.typeIs,sNext.lookup,h⟩
end
end RV
section
variable {X:Cx}{pins:List (Addr×Obj)}{σ:St}{H:Hp}{s:Shared}{a:Addr}{y v:V}{u r:Value}{o:Option V}{A:Around}{E:Value->Shared->Prop}
theorem Inv.big(I:Inv X pins σ H s):sysModules<s.heap.objs.size:=by
 have h:mainGlobals<s.heap.objs.size:=(I.mod.glob.keeps I.bk).lt;exact Nat.lt_trans (by decide) h
end
theorem xk(n:Int)(j:Nat):y0 n (j+1)=.int n::y0 (n+1) j:=by
 unfold y0;rw[List.range_succ_eq_map,List.map_cons,List.map_map];refine List.cons_eq_cons.mpr ⟨by simp,List.map_congr_left λi _=>?_⟩;show PyData.int (n+((i+1:Nat):Int))=PyData.int (n+1+(i:Nat));congr 1;lia
end L2
namespace L2
open PySem PySem.Spec PyProof.Rows PySem.Builtin PySem.Builtin.Str
def tx(x:Str):List Nat:=x.cps.toList
end L2
namespace L2
open PySem PySem.Spec PyProof.Rows
section
variable {K:PySem.W.Frag}{H₀ H H':Hp}{σD:DSt}{σ:St}
theorem DOk.setF{H1:Hp}(h:DOk K H₀ H1 σD σ)(s1:Same H1 H){o:O}{v:V}{f:List Addr}(n:∀a∈f,H1 a=none)(nf:f.Nodup)(r:RepO K H o v f)(i:Nat):DOk K H₀ H (σD.set i (some (.own o))) (σ.set i (some v)):=by
 obtain⟨s,fp,sl,nd,fr⟩:=id h;have lv:∀b∈fp,∀a∈f,b≠a:=λb hb a ha z=>by
  obtain⟨u,e1,_⟩:=sl.live b hb;rw[z,n a ha]at e1;cases e1
 obtain⟨s',fp',sl',_⟩:=id (h.after s1);have sl2:Slots K H₀ H σD σ fp:=sl.keep s1.pers (λh=>h.same s1) λb _ u e=>s1 b u e
 by_cases hi:i<σD.length
 ·obtain⟨g,g',e',sb⟩:=sl2.set (f:=f) (w:=some (.own o)) (v:=some v) (λt=>.own r t) i hi;refine⟨s',_,e',?_,λb hb=>?_⟩
  ·have nd2:=sb.nodup nd;rw[List.nodup_append]at nd2 ⊢;refine⟨nd2.1,?_,λx hx y hy=>?_⟩
   ·rw[List.nodup_append];exact⟨nf,nd2.2.1,λx hx y hy z=>lv y (sb.subset (List.mem_append_right _ hy)) x hx z.symm⟩
   ·rcases List.mem_append.mp hy with z|z
    ·exact lv x (sb.subset (List.mem_append_left _ hx)) y z
    ·exact nd2.2.2 x hx y z
  ·rcases List.mem_append.mp hb with z|z
   ·exact fr b (sb.subset (List.mem_append_left _ z))
   ·rcases List.mem_append.mp z with z|z
    ·cases q:H₀ b with
     |none=>rfl
     |some u=>have:=n b z;rw[s b u q]at this;cases this
    ·exact fr b (sb.subset (List.mem_append_right _ z))
 ·rw[List.set_eq_of_length_le (by lia),List.set_eq_of_length_le (by rw[<-sl2.length];lia)];exact⟨s',fp,sl2,nd,fr⟩
end
end L2
namespace L2
open PySem PySem.Spec PyProof.Rows PySem.W
theorem dseq_by{t R:DTS}{Dn:vr}{σ:DSt}(P:DSt->Prop)(h:∀N:DSt->Prop,(∀σ',P σ'->N σ')->t { Dn with nx:=N } σ)(k:∀σ',P σ'->R Dn σ'):zmg t R Dn σ:=h _ k
end L2
namespace L2
open PySem PySem.Spec PyProof.Rows
section
variable {K:PySem.W.Frag}{H₀ H:Hp}{σD:DSt}{σ:St}
theorem Slots.focus{fp:List Addr}(h:Slots K H₀ H σD σ fp){i:Nat}{o:O}(e:σD[i]?=some (some (.own o))):
  ∃v f g g',σ[i]?=some (some v)/\RepO K H o v f/\fp=g++(f++g')/\∀H' o' f',Pers H H'->(∀a,a∈g++g'->∀u,H a=some u->H' a=some u)->RepO K H' o' v f'->Slots K H₀ H' (clr (σD.set i (some (.own o')))) σ (g++(f'++g')):=by
 induction h generalizing i with
 |nil=>simp at e
 |none t ih=>
  cases i with
  |zero=>simp at e
  |succ i=>obtain⟨v,f,g,g',h1,h2,h3,h4⟩:=ih (i:=i) (by simpa using e);exact⟨v,f,g,g',by simpa using h1,h2,h3,λH' o' f' p k r=>.none (h4 H' o' f' p k r)⟩
 |val q t ih=>
  cases i with
  |zero=>simp at e
  |succ i=>obtain⟨v,f,g,g',h1,h2,h3,h4⟩:=ih (i:=i) (by simpa using e);exact⟨v,f,g,g',by simpa using h1,h2,h3,λH' o' f' p k r=>.val (q.mono p) (h4 H' o' f' p k r)⟩
 |vw q t ih=>
  cases i with
  |zero=>simp at e
  |succ i=>obtain⟨v,f,g,g',h1,h2,h3,h4⟩:=ih (i:=i) (by simpa using e);exact⟨v,f,g,g',by simpa using h1,h2,h3,λH' o' f' p k r=>.vw q (h4 H' o' f' p k r)⟩
 |vd q t ih=>
  cases i with
  |zero=>simp at e
  |succ i=>obtain⟨v,f,g,g',h1,h2,h3,h4⟩:=ih (i:=i) (by simpa using e);exact⟨v,f,g,g',by simpa using h1,h2,h3,λH' o' f' p k r=>.vd q (h4 H' o' f' p k r)⟩
 |exc q t ih=>
  cases i with
  |zero=>simp at e
  |succ i=>obtain⟨v,f,g,g',h1,h2,h3,h4⟩:=ih (i:=i) (by simpa using e);exact⟨v,f,g,g',by simpa using h1,h2,h3,λH' o' f' p k r=>.exc q (h4 H' o' f' p k r)⟩
 |scr q t ih=>
  cases i with
  |zero=>simp at e
  |succ i=>obtain⟨v,f,g,g',h1,h2,h3,h4⟩:=ih (i:=i) (by simpa using e);exact⟨v,f,g,g',by simpa using h1,h2,h3,λH' o' f' p k r=>.scr q (h4 H' o' f' p k r)⟩
 |pen q t ih=>
  cases i with
  |zero=>simp at e
  |succ i=>obtain⟨v,f,g,g',h1,h2,h3,h4⟩:=ih (i:=i) (by simpa using e);exact⟨v,f,g,g',by simpa using h1,h2,h3,λH' o' f' p k r=>.pen (p _ _ q rfl) (h4 H' o' f' p k r)⟩
 |tmp q t ih=>
  cases i with
  |zero=>simp at e
  |succ i=>obtain⟨v,f,g,g',h1,h2,h3,h4⟩:=ih (i:=i) (by simpa using e);exact⟨v,f,g,g',by simpa using h1,h2,h3,λH' o' f' p k r=>.none (h4 H' o' f' p k r)⟩
 |@own o0 v0 f0 ws wvs fp' q t ih=>
  cases i with
  |zero=>
   simp at e;subst e;refine⟨v0,f0,[],fp',rfl,q,rfl,λH' o' f' p k r=>?_⟩;rw[List.nil_append];exact .own r (t.keepC p λa ha u hu=>k a ha u hu)
  |succ i=>
   obtain⟨v,f,g,g',h1,h2,h3,h4⟩:=ih (i:=i) (by simpa using e);refine⟨v,f,f0++g,g',by simpa using h1,h2,by rw[h3,List.append_assoc],λH' o' f' p k r=>?_⟩;rw[List.append_assoc];refine .own (q.keep p λa ha u hu=>k a ?_ u hu) (h4 H' o' f' p (λa ha u hu=>k a ?_ u hu) r)
   ·exact List.mem_append_left _ (List.mem_append_left _ ha)
   ·rcases List.mem_append.mp ha with z|z
    ·exact List.mem_append_left _ (List.mem_append_right _ z)
    ·exact List.mem_append_right _ z
theorem DOk.focus(h:DOk K H₀ H σD σ){i:Nat}{o:O}(e:σD[i]?=some (some (.own o))):
  ∃v f,σ[i]?=some (some v)/\RepO K H o v f/\f.Nodup/\(∀a∈f,H₀ a=none)/\∀H' o' f',(∀a u,a∉f->H a=some u->H' a=some u)->f'.Nodup->(∀a∈f',a∈f\/H a=none)->RepO K H' o' v f' ->
   DOk K H₀ H' (clr (σD.set i (some (.own o')))) σ/\Pers H H':=by
 obtain⟨s,fp,sl,nd,fr⟩:=h;obtain⟨v,f,g,g',h1,h2,rfl,h4⟩:=sl.focus e;have nd':=nd;rw[List.nodup_append,List.nodup_append]at nd';obtain⟨ng,⟨nf,ng',dfg'⟩,dg⟩:=nd';have inf:∀a∈f,a∈g++(f++g'):=λa ha=>List.mem_append_right _ (List.mem_append_left _ ha);refine⟨v,f,h1,h2,nf,λa ha=>fr a (inf a ha),λH' o' f' k nf' hf' r=>?_⟩;have pr:Pers H H':=λa u ha hp=>k a u (λz=>by obtain⟨w,e1,e2⟩:=h2.live a z;rw[ha]at e1;cases e1;rw[e2]at hp;cases hp) ha;have off:∀a,a∈g++g'->a∉f:=λa ha z=>by
  rcases List.mem_append.mp ha with y|y
  ·exact dg a y a (List.mem_append_left _ z) rfl
  ·exact dfg' a z a y rfl
 have lv:∀a,a∈g++g'->H a≠none:=λa ha z=>by
  obtain⟨w,e1,_⟩:=sl.live a (by rcases List.mem_append.mp ha with y|y;exact List.mem_append_left _ y;exact List.mem_append_right _ (List.mem_append_right _ y));rw[z]at e1
  cases e1
 refine⟨⟨λa u ha=>k a u (λz=>by rw[fr a (inf a z)]at ha;cases ha) (s a u ha),_,h4 H' o' f' pr (λa ha u hu=>k a u (off a ha) hu) r,?_,λa ha=>?_⟩,pr⟩
 ·have nq:∀x∈g++g',∀y∈f',x≠y:=λx hx y hy z=>by
   subst z;rcases hf' x hy with q|q
   ·exact off x hx q
   ·exact lv x hx q
  rw[List.nodup_append,List.nodup_append];refine⟨ng,⟨nf',ng',λx hx y hy z=>nq y (List.mem_append_right _ hy) x hx z.symm⟩,λx hx y hy=>?_⟩;rcases List.mem_append.mp hy with q|q
  ·exact nq x (List.mem_append_left _ hx) y q
  ·exact dg x hx y (List.mem_append_right _ q)
 ·rcases List.mem_append.mp ha with q|q
  ·exact fr a (List.mem_append_left _ q)
  ·rcases List.mem_append.mp q with q|q
   ·rcases hf' a q with z|z
    ·exact fr a (inf a z)
    ·cases y:H₀ a with
     |none=>rfl
     |some u=>rw[s a u y]at z;cases z
   ·exact fr a (List.mem_append_right _ (List.mem_append_right _ q))
def O.bare:O->O
 |.anc _ o=>o.bare
 |o=>o
def O.with:O->O->O
 |.anc a o,o'=>.anc a (o.with o')
 |_,o'=>o'
theorem RepO.bare{o:O}{v:V}{f:List Addr}(h:RepO K H o v f):RepO K H o.bare v f:=by
 induction o with
 |anc a o ih=>exact ih h.2
 |_=>exact h
theorem RepO.ref{o:O}{v:V}{f:List Addr}(h:RepO K H o v f):∃a,v=.ref a:=by
 induction o with
 |anc a o ih=>exact⟨a,h.1⟩
 |lst xs=>obtain⟨a,_,e,_⟩:=h;exact⟨a,e⟩
 |dct xs=>obtain⟨a,_,e,_⟩:=h;exact⟨a,e⟩
 |nst xs ds=>obtain⟨a,_,_,e,_⟩:=h;exact⟨a,e⟩
 |ins c fs=>obtain⟨a,_,_,_,e,_⟩:=h;exact⟨a,e⟩
 |mix ms=>obtain⟨a,_,_,e,_⟩:=h;exact⟨a,e⟩
 |tk ks=>obtain⟨a,e,_⟩:=h;exact⟨a,e⟩
 |dcT ks=>obtain⟨a,_,e,_⟩:=h;exact⟨a,e⟩
 |dcD ks=>obtain⟨a,_,e,_⟩:=h;exact⟨a,e⟩
 |insF c fs f xs=>obtain⟨a,_,_,_,_,_,e,_⟩:=h;exact⟨a,e⟩
 |fzT ks=>obtain⟨a,_,_,e,_⟩:=h;exact⟨a,e⟩
 |insL c fss=>obtain⟨a,_,e,_⟩:=h;exact⟨a,e⟩
theorem RepO.with{H':Hp}{o o':O}{v:V}{f f':List Addr}(h:RepO K H o v f)(h':RepO K H' o' v f'):RepO K H' (o.with o') v f':=by
 induction o with
 |anc a o ih=>exact⟨h.1,ih h.2⟩
 |_=>exact h'
end
def zad(f:List Addr)(H:Hp):Hp:=λa=>if a∈f then none else H a
theorem ku{f:List Addr}{H:Hp}{a:Addr}(h:a∈f):zad f H a=none:=if_pos h
theorem x9{f:List Addr}{H:Hp}{a:Addr}(h:a∉f):zad f H a=H a:=if_neg h
theorem zas{f:List Addr}{H:Hp}:Same (zad f H) H:=λa u h=>by
 by_cases z:a∈f
 ·rw[ku z]at h;cases h
 ·rw[x9 z]at h;exact h
theorem zdt{K:PySem.W.Frag}{o:O}{v:V}{f:List Addr}{H:Hp}(r:RepO K H o v f):Pers H (zad f H):=λa u h p=>by
 rw[x9]
 ·exact h
 ·intro z;obtain⟨w,e1,e2⟩:=r.live a z;rw[h]at e1
  cases e1;rw[e2]at p
  cases p
def W.plain:W->Bool
 |.val _=>true
 |.pen=>true
 |_=>false
theorem RepWs.mono{K:PySem.W.Frag}{H H':Hp}(p:Pers H H'){ws:List W}{vs:List V}(h:∀w∈ws,w.plain=true)(q:RepWs K H ws vs):RepWs K H' ws vs:=by
 induction q with
 |nil=>exact .nil
 |@cons w _ _ _ r t ih=>
  refine .cons ?_ (ih λx hx=>h x (List.mem_cons_of_mem _ hx));have:=h w List.mem_cons_self
  cases w with
  |val d=>exact Rep.mono p r
  |pen=>obtain⟨a,rfl,r⟩:=r;exact⟨a,rfl,p _ _ r rfl⟩
  |_=>cases this
abbrev zat:=List W->O->List W->(D->O->Prop)->Prop
def zjg(K:PySem.W.Frag)(sp:zat):Sp:=λvs H Q _=>∃vp a vq ws o wq QD H₀ f,vs=vp ++ .ref a::vq/\RepWs K H₀ ws vp/\RepWs K H₀ wq vq/\RepO K H o (.ref a) f/\f.Nodup/\(∀b∈f,H₀ b=none)/\Same H₀ H/\sp ws o wq QD /\
 ∀v H' d o' f',Same H₀ H'->Rep K H' d v->RepO K H' o' (.ref a) f'->f'.Nodup->(∀b∈f',H₀ b=none)->QD d o'->Q v H'
structure zdu where
 nx:DSt->Prop
 rt:D->DSt->Prop
 bk:DSt->Prop:=λ_=>False
 ct:DSt->Prop:=λ_=>False
abbrev GTS:=zdu->DSt->Prop
def zf6(K:PySem.W.Frag)(H₀ H:Hp)(Gn:zdu):zg3 where
 nx:=λσ' H'=>∃σD',DOk K H₀ H' σD' σ'/\Pers H H'/\Gn.nx σD'
 bk:=λσ' H'=>∃σD',DOk K H₀ H' σD' σ'/\Pers H H'/\Gn.bk σD'
 ct:=λσ' H'=>∃σD',DOk K H₀ H' σD' σ'/\Pers H H'/\Gn.ct σD'
 rt:=λv H'=>∃σ' σD' d,DOk K H₀ H' σD' σ'/\Rep K H' d v/\Gn.rt d σD'
structure DGS(X:Cx)(st:Stmt)(t:GTS):Prop where
 run:∀(pins:List (Addr×Obj)) (s:Shared) (σ:St) (H H₀:Hp) (σD:DSt) (Gn:zdu),Inv X pins σ H s->DOk X.K H₀ H σD σ->t Gn σD->wpAny (model X.prog X.w) X.A (exec st X.env) (SP X pins (zf6 X.K H₀ H Gn)) X.xe s
structure DGSs(X:Cx)(st:List Stmt)(t:GTS):Prop where
 run:∀(pins:List (Addr×Obj)) (s:Shared) (σ:St) (H H₀:Hp) (σD:DSt) (Gn:zdu),Inv X pins σ H s->DOk X.K H₀ H σD σ->t Gn σD->wpAny (model X.prog X.w) X.A (execs st X.env) (SP X pins (zf6 X.K H₀ H Gn)) X.xe s
theorem SP.backG{X:Cx}{pins:List (Addr×Obj)}{H₀ H H1:Hp}{Gn:zdu}{f:Flow}{s':Shared}(p:Pers H H1)(h:SP X pins (zf6 X.K H₀ H1 Gn) f s'):SP X pins (zf6 X.K H₀ H Gn) f s':=by
 cases f with
 |next=>obtain⟨a,b,e1,c,e2,e3,e4⟩:=h;exact⟨a,b,e1,c,e2,p.trans e3,e4⟩
 |brk=>obtain⟨a,b,e1,c,e2,e3,e4⟩:=h;exact⟨a,b,e1,c,e2,p.trans e3,e4⟩
 |cont=>obtain⟨a,b,e1,c,e2,e3,e4⟩:=h;exact⟨a,b,e1,c,e2,p.trans e3,e4⟩
 |ret u=>exact h
section
variable {X:Cx}{st:Stmt}{sts rest:List Stmt}{t u:GTS}{e:Expr}{te:DTE}{pos:Pos}
theorem DGS.of{t':TS}(h:PS X st t')(k:∀σ H H₀ σD Gn,DOk X.K H₀ H σD σ->t Gn σD->t' (zf6 X.K H₀ H Gn) σ H):DGS X st t :=
 ⟨λpins s σ H H₀ σD Gn I ok q=>h pins s σ H _ I (k σ H H₀ σD Gn ok q)⟩
def zwf(K:PySem.W.Frag)(t:GTS):TS:=λE σ H=>∃H₀ σD Gn,DOk K H₀ H σD σ/\t Gn σD/\(∀σ' H' σD',DOk K H₀ H' σD' σ'->Pers H H'->Gn.nx σD'->E.nx σ' H')/\(∀v H' σ' σD' d,DOk K H₀ H' σD' σ'->Rep K H' d v->Gn.rt d σD'->E.rt v H') /\
 (∀σ' H' σD',DOk K H₀ H' σD' σ'->Pers H H'->Gn.bk σD'->E.bk σ' H')/\∀σ' H' σD',DOk K H₀ H' σD' σ'->Pers H H'->Gn.ct σD'->E.ct σ' H'
theorem DGSs.ps(h:DGSs X sts t):PSs X sts (zwf X.K t):=by
 intro pins s σ H E I zz;obtain⟨H₀,σD,Gn,ok,q,k1,k2,k3,k4⟩:=zz;refine thn (h.run pins s σ H H₀ σD Gn I ok q) λf s' z=>?_
 cases f with
 |next=>obtain⟨a,b,e1,c,e2,e3,e4⟩:=z;exact⟨a,b,e1,k1 a b c e2 e3 e4⟩
 |brk=>obtain⟨a,b,e1,c,e2,e3,e4⟩:=z;exact⟨a,b,e1,k3 a b c e2 e3 e4⟩
 |cont=>obtain⟨a,b,e1,c,e2,e3,e4⟩:=z;exact⟨a,b,e1,k4 a b c e2 e3 e4⟩
 |ret u=>obtain⟨v,a,b,e1,e2,σ',σD',d,e3,e4,e5⟩:=z;exact⟨v,a,b,e1,e2,k2 v b σ' σD' d e3 e4 e5⟩
def zm5(t:DTS):GTS:=λGn σ=>t { nx:=Gn.nx,rt:=λ_=>False,bk:=Gn.bk,ct:=Gn.ct } σ
theorem jj{t:DTS}(h:DS X st t):DGS X st (zm5 t):=⟨λpins s σ H H₀ σD Gn I ok q=>thn (h.run pins s σ H H₀ σD _ I ok q) λf s' z=>by
 cases f with
 |next=>obtain⟨a,b,c,e1,e2,e3,e4⟩:=z;exact⟨a,b,e1,c,e2,e3,e4⟩
 |brk=>obtain⟨a,b,c,e1,e2,e3,e4⟩:=z;exact⟨a,b,e1,c,e2,e3,e4⟩
 |cont=>obtain⟨a,b,c,e1,e2,e3,e4⟩:=z;exact⟨a,b,e1,c,e2,e3,e4⟩
 |ret u=>obtain⟨v,a,b,r,e1,e2,e3,e4,e5⟩:=z;exact e5.elim⟩
def zm6:GTS:=λGn σ=>Gn.nx σ
def zps(t u:GTS):GTS:=λGn σ=>t { Gn with nx:=u Gn } σ
theorem zm7:DGSs X [] zm6:=⟨λ_ _ σ H _ σD _ I ok h=>wpAny_execs_nil ⟨σ,H,I,σD,ok,Pers.refl _,h⟩⟩
theorem xl(h1:DGS X st t)(h2:DGSs X rest u):DGSs X (st::rest) (zps t u):=⟨λpins s σ H H₀ σD Gn I ok q=>by
 refine wpAny_execs_cons (thn (h1.run pins s σ H H₀ σD { Gn with nx:=u Gn } I ok q) λf s1 z=>?_)
 cases f with
 |next=>
  obtain⟨σ',H',I',σD',ok',p,q'⟩:=z;exact thn (h2.run pins s1 σ' H' H₀ σD' Gn I' ok' q') λ_ _ y=>y.backG p
 |ret v=>exact z
 |brk=>exact z
 |cont=>exact z⟩
theorem zf7(h1:DGS X st t):DGSs X [st] t:=⟨λpins s σ H H₀ σD Gn I ok q=>by
 refine wpAny_execs_cons (thn (h1.run pins s σ H H₀ σD Gn I ok q) λf s1 z=>?_)
 cases f with
 |next=>exact wpAny_execs_nil z
 |ret v=>exact z
 |brk=>exact z
 |cont=>exact z⟩
theorem zae{t u:GTS}{Gn:zdu}{σ:DSt}(M:DSt->Prop)(h1:∀N:DSt->Prop,(∀σ',M σ'->N σ')->t { Gn with nx:=N } σ)(h2:∀σ',M σ'->u Gn σ'):zps t u Gn σ:=h1 _ h2
def zs7(te:DTE):GTS:=λGn σ=>te σ λd=>Gn.rt d σ
theorem zjh(he:DE X e te):DGS X (.Return (some e) pos) (zs7 te) :=
 DGS.of (zal he.pe) λσ H H₀ σD Gn ok q=>⟨H₀,σD,_,ok,q,λv H1 d s1 r1 q1=>⟨σ,σD,d,ok.after s1,r1,q1⟩⟩
def gIf(c:DTT)(t u:GTS):GTS:=λGn σ=>c σ λb=>if b=true then t Gn σ else u Gn σ
theorem zs8{c:Expr}{a b:List Stmt}{tc:DTT}(hc:DT X c tc)(ha:DGSs X a t)(hb:DGSs X b u):DGS X (.If c a b pos) (gIf tc t u):=⟨λpins s σ H H₀ σD Gn I ok q=>by
 refine wpAny_If (thn (hc.run pins s σ H H₀ σD _ I ok q) λd s1 zr54=>?_);obtain⟨H1,I1,sm,q1⟩:=zr54
 cases d with
 |true=>exact thn (ha.run pins s1 σ H1 H₀ σD Gn I1 (ok.after sm) (by simpa using q1)) λ_ _ z=>z.backG sm.pers
 |false=>exact thn (hb.run pins s1 σ H1 H₀ σD Gn I1 (ok.after sm) (by simpa using q1)) λ_ _ z=>z.backG sm.pers⟩
end
abbrev k6:=DSt->(List W->List W->Prop)->Prop
structure DPG(X:Cx)(i:Nat)(es:List Expr)(t:k6):Prop where
 run:∀(pos:Pos) (pins:List (Addr×Obj)) (s:Shared) (σ:St) (H H₀:Hp) (σD:DSt) (Q:List W->List W->Prop),Inv X pins σ H s->DOk X.K H₀ H σD σ->t σD Q ->
  wpAny (model X.prog X.w) X.A (spliced (backTo pos (starEach es X.env))) (λus s'=>∃vp v vq H' wp wq,Inv X pins σ H' s'/\Vals (vp++v::vq) us/\Same H H'/\σ[i]?=some (some v)/\RepWs X.K H' wp vp/\RepWs X.K H' wq vq/\Q wp wq) X.xe s
section
variable {X:Cx}{e:Expr}{es:List Expr}{k k' i j:Nat}{x:Str}{ps:List Str}{sp:zat}{t:k6}{p pos:Pos}
def zwg(K:PySem.W.Frag)(i:Nat)(t:k6):TA:=λσ H Q=>∃H₀ σD QD,DOk K H₀ H σD σ/\t σD QD/\∀vp v vq H' wp wq,Same H H'->σ[i]?=some (some v)->RepWs K H' wp vp->RepWs K H' wq vq->QD wp wq->Q (vp++v::vq) H'
theorem DPG.pa(h:DPG X i es t):PA X es (zwg X.K i t):=λpos pins s σ H Q I zq62=>by obtain⟨H₀,σD,QD,ok,q,k⟩:=zq62;exact thn (h.run pos pins s σ H H₀ σD QD I ok q) λus s' zq57=>by obtain⟨vp,v,vq,H',wp,wq,I',r,sm,e,r1,r2,qd⟩:=zq57;exact⟨_,H',I',r,k vp v vq H' wp wq sm e r1 r2 qd⟩
def zes(i:Nat)(r:DTP):k6:=λσ Q=>match σ[i]? with
 |some (some (.own _))=>r σ λwq=>Q [] wq
 |_=>False
theorem zji(i:Nat){x:Str}{pos:Pos}{r:DTP}(hr:DPs X es r)(hN:X.N[i]?=some x:=by rfl)(hv:Vis X.env.scope x:=by first|exact Or.inl rfl|exact Or.inr (Or.inl rfl)|exact Or.inr (Or.inr rfl))(hd:(x ==("__debug__" : Str))=false:=by decide)
  (hcd:(x ==("__classdict__" : Str))=false:=by decide) (hs:starEach (.Name x pos::es) X.env=(false,eval (.Name x pos) X.env)::starEach es X.env:=by rfl):DPG X i (.Name x pos::es) (zes i r):=⟨λpos' pins s σ H H₀ σD Q I ok q=>by
 refine thn (yw (y4 (i:=i) hN hv hd hcd) hr.pa hs pos' pins s σ H (λvs H'=>∃v vq wq,vs=v::vq/\Same H H'/\σ[i]?=some (some v)/\RepWs X.K H' wq vq/\Q [] wq) I ?_) λus s' zq93=>by obtain⟨vs,H',I',r,v,vq,wq,e1,sm,e2,rp,qd⟩:=zq93;subst e1;exact⟨[],v,vq,H',[],wq,I',r,sm,e2,.nil,rp,qd⟩
 unfold zes at q
 split at q
 ·next o e=>
  obtain⟨v,f,e1,_⟩:=ok.focus e;exact⟨v,e1,H₀,σD,_,ok,q,λws H2 ds s2 r2 q2=>⟨v,ws,ds,rfl,s2,e1,r2,q2⟩⟩
 ·exact q.elim⟩
def zh0(t:DTE)(r:k6):k6:=λσ Q=>t σ λd=>r σ λwp wq=>Q (.val d::wp) wq
theorem zjj{t:DTE}{r:k6}(ha:DE X e t)(hr:DPG X i es r)(hs:starEach (e::es) X.env=(false,eval e X.env)::starEach es X.env:=by rfl):DPG X i (e::es) (zh0 t r):=⟨λpos pins s σ H H₀ σD Q I ok q=>by
 refine thn (yw ha.pe hr.pa hs pos pins s σ H (λvs H'=>∃vp v vq wp wq,vs=vp++v::vq/\Same H H'/\σ[i]?=some (some v)/\RepWs X.K H' wp vp/\RepWs X.K H' wq vq/\Q wp wq) I ?_) λus s' zq3=>by obtain⟨vs,H',I',r,vp,v,vq,wp,wq,e1,sm,e2,rp,rq,qd⟩:=zq3;subst e1;exact⟨vp,v,vq,H',wp,wq,I',r,sm,e2,rp,rq,qd⟩
 exact⟨H₀,σD,_,ok,q,λv H1 d s1 r1 q1=>⟨H₀,σD,_,ok.after s1,q1,λvp v' vq H2 wp wq s2 e2 r2 r3 q2=>⟨v::vp,v',vq,.val d::wp,wq,rfl,s1.trans s2,e2,.cons (r1.same s2) r2,r3,q2⟩⟩⟩⟩
def zau(K:PySem.W.Frag)(i:Nat)(sp:zat)(t:k6):TE:=λσ H Q=>∃H₀ σD o QD,DOk K H₀ H σD σ/\σD[i]?=some (some (.own o))/\t σD (λwp wq=>wp.all W.plain=true/\wq.all W.plain=true/\sp wp o.bare wq QD) /\
 ∀v H' d o',DOk K H₀ H' (clr (σD.set i (some (.own (o.with o'))))) σ->Pers H H'->Rep K H' d v->QD d o'->Q v H'
theorem zf8(C:je X.prog X.w X.K X.mg X.base k x ps (zjg X.K sp))(hr:Room k' X.A)(hg:Gl X x)(ha:DPG X i (e::es) t)(hk:k<=k':=by decide)(hdb:(x ==("__debug__" : Str))=false:=by decide)
  (he:starEach (e::es) X.env=(false,eval e X.env)::starEach es X.env:=by rfl) (hpl:(backTo pos (starEach es X.env)).any (·.1)=false:=by rfl):PE X (.Call (.Name x p) (e::es) [] pos) (zau X.K i sp t):=by
 intro pins s σ H Q I zr44;obtain⟨H₀,σD,o,QD,ok,eo,q,kq⟩:=zr44;refine jx C hr hg ha.pa hk hdb he hpl pins s σ H Q I ⟨H₀,σD,_,ok,q,λvp v vq H1 wp wq s1 e1 r1 r2 q1=>?_⟩;obtain⟨v',f,e2,rO,nf,fr,put⟩:=(ok.after s1).focus eo;rw[e1]at e2
 cases e2;obtain⟨a,rfl⟩:=rO.ref;obtain⟨p1,p2,q2⟩:=q1;refine⟨vp,a,vq,wp,o.bare,wq,QD,zad f H1,f,by rw[List.append_nil],r1.mono (zdt rO) (List.all_eq_true.mp p1),r2.mono (zdt rO) (List.all_eq_true.mp p2),rO.bare,nf,λb hb=>ku hb,zas,q2,λv2 H2 d o' f' s2 rp ro nf' hf' qd=>?_⟩;obtain⟨ok2,pr⟩:=put H2 (o.with o') f' (λb u hb hu=>s2 b u (by rw[x9 hb];exact hu)) nf' (λb hb=>by
  by_cases z:b∈f
  ·exact .inl z
  ·have:=hf' b hb;rw[x9 z]at this;exact .inr this) (rO.with ro)
 exact kq v2 H2 d o' ok2 (s1.pers.trans pr) rp qd
end
section
variable {P:Program}{w:World}{K:PySem.W.Frag}{mg:Str->Option Value}{base:Heap}
theorem DOk.beginG{H₀ H:Hp}{wp wq:List W}{vp vq:List V}{o:O}{a:Addr}{f:List Addr}(r1:RepWs K H₀ wp vp)(r2:RepWs K H₀ wq vq)(rO:RepO K H o (.ref a) f)(nf:f.Nodup)(fr:∀b∈f,H₀ b=none)(s:Same H₀ H)(N:List Str):
  DOk K H₀ H (v7 N (wp ++ .own (.anc a o)::wq)) (vo N (vp ++ .ref a::vq)):=by
 have rep:∀n:Nat,Slots K H₀ H (List.replicate n none) (List.replicate n none) []:=λn=>by
  induction n with
  |zero=>exact .nil
  |succ n ih=>exact .none ih
 have put:∀{ws:List W}{vs:List V},RepWs K H₀ ws vs->∀{τ:DSt}{ρ:St}{g:List Addr},Slots K H₀ H τ ρ g->Slots K H₀ H (ws.map some++τ) (vs.map some++ρ) g:=by
  intro ws vs r τ ρ g t
  induction r with
  |nil=>exact t
  |@cons w' v ws vs r _ ih=>
   cases w' with
   |val d=>exact .val (Rep.same s r) ih
   |vw xs=>exact .vw r ih
   |vd xs=>exact .vd r ih
   |exc xs=>exact .exc r ih
   |scr ns=>obtain⟨a,rfl,r⟩:=r;exact .scr r ih
   |pen=>obtain⟨a,rfl,r⟩:=r;exact .pen (s _ _ r) ih
   |tmp d=>exact r.elim
   |own o=>exact r.elim
 have e1:=r1.length;have e2:=r2.length;refine⟨s,f,?_,nf,fr⟩;unfold v7 vo;have z:=put r1 (Slots.own (o:=.anc a o) (v:=.ref a) ⟨rfl,rO⟩ (put r2 (rep (N.length-(wp++W.own (.anc a o)::wq).length))));rw[List.append_nil]at z;have el:(vp++V.ref a::vq).length=(wp++W.own (.anc a o)::wq).length:=by simp[e1,e2]
 rw[el];simpa using z
theorem Fun.dokG{x qual:Str}{st:Stmt}{f:Addr}{fd:FuncData}{N ps:List Str}{k:Nat}{sp:zat}(F:Fun K x qual st f fd)(S:z4 N ps (zl st))(len:∀wp o wq Q,sp wp o wq Q->wp.length+1+wq.length=ps.length)
  (hbody:∀(cdv:Value) (A:Around) (outer:List Env) (s:Shared) (H:Hp) (a:Addr) (wp:List W) (o:O) (wq:List W) (Q:D->O->Prop) (E:XK),Room k (A.deeper (envOfC qual (zl st) s.heap.objs.size f cdv))->sp wp o wq Q ->
   ∃t,DGSs (zfh CX0 P w K mg base N qual (zl st) f cdv A outer s H E).nox (xv st) t/\t { nx:=λσ=>∃o',σ[wp.length]?=some (some (.own (.anc a o')))/\Q .none o',rt:=λd σ=>∃o',σ[wp.length]?=some (some (.own (.anc a o')))/\Q d o' } (v7 N (wp ++ .own (.anc a o)::wq))):FnOk P w K mg base CX0 (k+1) f fd ps (zjg K sp):=by
 refine F.ok S (λvs H Q E h=>?_) λcdv A outer s H vs Q E hr h=>?_
 ·obtain⟨vp,a,vq,ws,o,wq,QD,H₀,f,rfl,r1,r2,_,_,_,_,q,_⟩:=h;rw[<-len _ _ _ _ q,r1.length,r2.length];simp only[List.length_append,List.length_cons];lia
 ·obtain⟨vp,a,vq,wp,o,wq,QD,H₀,f,rfl,r1,r2,rO,nf,fr,sm,q,kk⟩:=h;obtain⟨t,ht,hq⟩:=hbody cdv A outer s H a wp o wq QD E hr q
  have ends:∀{v H' σ' σD' d},DOk K H₀ H' σD' σ'->Rep K H' d v->(∃o',σD'[wp.length]?=some (some (.own (.anc a o')))/\QD d o')->Q v H':=by
   intro v H' σ' σD' d ok rp ⟨o',e,qd⟩;obtain⟨v',f',e1,ro,nf',fr',_⟩:=ok.focus e;obtain⟨rfl,ro⟩:=ro;exact kk v H' d o' f' ok.same rp ro nf' fr' qd
  exact⟨_,ht.ps,H₀,_,_,DOk.beginG r1 r2 rO nf fr sm N,hq,λσ' H' σD' ok' p' q'=>ends ok' .non q',λv H' σ' σD' d ok' rp qr=>ends ok' rp qr,λ_ _ _ _ _ z=>z.elim,λ_ _ _ _ _ z=>z.elim⟩
end
section
variable {X:Cx}{e:Expr}{pos:Pos}{i j:Nat}{sp:zat}{t:k6}{a b:List Stmt}{ta tb:DTS}
def zcb(i:Nat)(sp:zat)(t:k6)(N:D->DSt->Prop):DSt->Prop:=λσ=>match σ[i]? with
 |some (some (.own o))=>t σ λwp wq=>wp.all W.plain=true/\wq.all W.plain=true/\sp wp o.bare wq λd o'=>N d (clr (σ.set i (some (.own (o.with o')))))
 |_=>False
theorem zh1{K:PySem.W.Frag}{H H₀:Hp}{σD:DSt}{σ:St}{N:D->DSt->Prop}{Q:VK}(ok:DOk K H₀ H σD σ)(q:zcb i sp t N σD)(kq:∀v H' d σD',DOk K H₀ H' σD' σ->Pers H H'->Rep K H' d v->N d σD'->Q v H'):zau K i sp t σ H Q:=by
 unfold zcb at q
 split at q
 ·next o eo=>exact⟨H₀,σD,o,_,ok,eo,q,λv H' d o' ok' pr rp qd=>kq v H' d _ ok' pr rp qd⟩
 ·exact q.elim
end
def MxAt(K:PySem.W.Frag)(H:Hp)(bs:List Addr)(u:V):Mx->Prop
 |.v d=>Rep K H d u
 |.l xs=>∃b vs,u=.ref b/\b∈bs/\H b=some (.lst vs)/\Reps K H xs vs
section
variable {K:PySem.W.Frag}{H H':Hp}
theorem MxAt.more{bs cs:List Addr}{u:V}{m:Mx}(h:MxAt K H bs u m)(k:∀b∈bs,b∈cs):MxAt K H cs u m:=by
 cases m with
 |v d=>exact h
 |l xs=>obtain⟨b,vs,e1,e2,e3⟩:=h;exact⟨b,vs,e1,k b e2,e3⟩
theorem MxR.at:∀{ms:List Mx}{us:List V}{bs:List Addr}{k:Nat}{m:Mx},MxR K H ms us bs->ms[k]?=some m->∃u,us[k]?=some u/\MxAt K H bs u m
 |[],_,_,k,m,_,e=>by simp at e
 |.v d::ms,u::us,bs,0,m,h,e=>by cases e;exact⟨u,rfl,h.1⟩
 |.v d::ms,u::us,bs,k+1,m,h,e=>by
  obtain⟨w,e1,r⟩:=MxR.at (k:=k) h.2 (by simpa using e);exact⟨w,by simpa using e1,r⟩
 |.l xs::ms,u::us,b::bs,0,m,h,e=>by
  cases e;obtain⟨e0,⟨vs,e1,r⟩,_⟩:=h;exact⟨u,rfl,b,vs,e0,List.mem_cons_self,e1,r⟩
 |.l xs::ms,u::us,b::bs,k+1,m,h,e=>by
  obtain⟨w,e1,r⟩:=MxR.at (k:=k) h.2.2 (by simpa using e);exact⟨w,by simpa using e1,r.more λc hc=>List.mem_cons_of_mem _ hc⟩
theorem MxR.setV{d:D}{w:V}(r:Rep K H d w):∀{ms:List Mx}{us:List V}{bs:List Addr}{k:Nat}{d0:D},MxR K H ms us bs->ms[k]?=some (.v d0)->MxR K H (ms.set k (.v d)) (us.set k w) bs
 |[],_,_,k,d0,_,e=>by simp at e
 |.v _::ms,u::us,bs,0,d0,h,e=>⟨r,h.2⟩
 |.v _::ms,u::us,bs,k+1,d0,h,e=>⟨h.1,MxR.setV r h.2 (by simpa using e)⟩
 |.l xs::ms,u::us,b::bs,0,d0,h,e=>by cases e
 |.l xs::ms,u::us,b::bs,k+1,d0,h,e=>⟨h.1,h.2.1,MxR.setV r h.2.2 (by simpa using e)⟩
theorem MxR.setL{b:Addr}{ws:List V}{ys:List D}(p:Pers H (upd H b (.lst ws)))(r:Reps K (upd H b (.lst ws)) ys ws):∀{ms:List Mx}{us:List V}{bs:List Addr}{k:Nat}{xs:List D},MxR K H ms us bs->bs.Nodup->ms[k]?=some (.l xs)->us[k]?=some (.ref b)->MxR K (upd H b (.lst ws)) (ms.set k (.l ys)) us bs
 |[],_,_,k,xs,_,_,e,_=>by simp at e
 |.v _::ms,u::us,bs,0,xs,h,nd,e,_=>by cases e
 |.v _::ms,u::us,bs,k+1,xs,h,nd,e,e2=>⟨h.1.mono p,MxR.setL p r h.2 nd (by simpa using e) (by simpa using e2)⟩
 |.l zs::ms,u::us,c::bs,0,xs,h,nd,e,e2=>by
  obtain⟨e0,_,t⟩:=h;have e3:u=.ref b:=by simpa using e2
  have:c=b:=V.ref.inj (e0.symm.trans e3);subst this;exact⟨e0,⟨ws,zq,r⟩,t.keep p λa ha w' hw=>by rw[zv (λz=>(List.nodup_cons.mp nd).1 (by rw[<-z];exact ha))];exact hw⟩
 |.l zs::ms,u::us,c::bs,k+1,xs,h,nd,e,e2=>by
  obtain⟨e0,⟨vs,e1,r1⟩,t⟩:=h;obtain⟨w',e3,b',vs',e4,e5,_⟩:=MxR.at (k:=k) t (by simpa using e);have e6:us[k]?=some (.ref b):=by simpa using e2
  rw[e6]at e3
  cases e3
  cases e4;refine⟨e0,⟨vs,?_,r1.mono p⟩,MxR.setL p r t (List.nodup_cons.mp nd).2 (by simpa using e) e6⟩;rw[zv (λz=>(List.nodup_cons.mp nd).1 (by rw[z];exact e5))];exact e1
theorem DOk.mixAt{H₀:Hp}{σD:DSt}{σ:St}(h:DOk K H₀ H σD σ){i:Nat}{o:O}{ms:List Mx}(e:σD[i]?=some (some (.own o)))(eb:o.bare=.mix ms):
  ∃a us bs,σ[i]?=some (some (.ref a))/\H a=some (.lst us)/\MxR K H ms us bs/\(a::bs).Nodup /\
   ∀H' ms' us' bs',(∀c u,c∉a::bs->H c=some u->H' c=some u)->(a::bs').Nodup->(∀c∈bs',c∈a::bs\/H c=none)->H' a=some (.lst us')->MxR K H' ms' us' bs' ->
    DOk K H₀ H' (clr (σD.set i (some (.own (o.with (.mix ms')))))) σ/\Pers H H':=by
 obtain⟨v,f,e1,rO,nf,_,put⟩:=h.focus e;have r:=rO.bare;rw[eb]at r;obtain⟨a,us,bs,rfl,rfl,ea,m⟩:=r;exact⟨a,us,bs,e1,ea,m,nf,λH' ms' us' bs' k nd fr ea' m'=>put H' _ (a::bs') k nd (λc hc=>by
  rcases List.mem_cons.mp hc with rfl|hc
  ·exact .inl List.mem_cons_self
  ·exact fr c hc) (rO.with (o':=.mix ms') ⟨a,us',bs',rfl,rfl,ea',m'⟩)⟩
end
theorem zbt{α:Type}{xs:List α}{n:Int}{k:Nat}{v:α}(h:ixN xs.length n=some k)(e:xs[k]?=some v):atI xs n=some v:=by
 unfold atI;rw[h];exact e
def zpt(i:Nat)(ti:DTE):DTE:=λσ Q=>match σ[i]? with
 |some (some (.own o))=>match o.bare with
  |.mix ms=>ti σ λn=>match n with
   |.int n=>∃k m,ixN ms.length n=some k/\ms[k]?=some m/\match m with
    |.v d=>Q d
    |.l xs=>Q (.list xs)
   |_=>False
  |_=>False
 |_=>False
section
variable {X:Cx}{e ie:Expr}{te ti:DTE}{tf:DTF}{pos:Pos}
theorem wo(i:Nat){x:Str}{p1:Pos}(hi:DE X ie ti)(hix:qx ie)(hN:X.N[i]?=some x:=by rfl)(hv:Vis X.env.scope x:=by first|exact Or.inl rfl|exact Or.inr (Or.inl rfl)|exact Or.inr (Or.inr rfl))(hd:(x ==("__debug__" : Str))=false:=by decide)
  (hcd:(x ==("__classdict__" : Str))=false:=by decide):DV X (.Subscript (.Name x p1) ie pos) (zpt i ti) :=
 DV.of (v4 ix_list (y4 (i:=i) hN hv hd hcd) hi.pe hix) λσ H H₀ σD QD ok q=>by
  unfold zpt at q
  split at q
  ·next o eo=>
   split at q
   ·next ms eb=>
    obtain⟨a,us,bs,e1,ea,m,_⟩:=ok.mixAt eo eb;refine⟨.ref a,e1,H₀,σD,_,ok,q,λv H1 d s1 r1 q1=>?_⟩
    cases d with
    |int n=>
     cases r1;obtain⟨k,mm,h1,h2,q2⟩:=q1;obtain⟨u,hu,r⟩:=m.at h2;rw[m.len]at h1
     cases mm with
     |v d=>exact⟨a,us,n,u,rfl,rfl,SqL.of (s1 _ _ ea),zbt h1 hu,d,s1,.inl (Rep.same s1 r),q2⟩
     |l xs=>
      obtain⟨b,vs,rfl,_,eb2,r2⟩:=r;exact⟨a,us,n,_,rfl,rfl,SqL.of (s1 _ _ ea),zbt h1 hu,.list xs,s1,.inr ⟨xs,rfl,b,vs,rfl,.inl (s1 _ _ eb2),r2.same s1⟩,q2⟩
    |_=>exact q1.elim
   ·exact q.elim
  ·exact q.elim
def zpu(i:Nat)(ti:DTE):DTE:=λσ Q=>match σ[i]? with
 |some (some (.own o))=>match o.bare with
  |.mix ms=>ti σ λn=>match n with
   |.int n=>∃k d,ixN ms.length n=some k/\ms[k]?=some (.v d)/\Q d
   |_=>False
  |_=>False
 |_=>False
theorem zet(i:Nat){x:Str}{p1:Pos}(hi:DE X ie ti)(hix:qx ie)(hN:X.N[i]?=some x:=by rfl)(hv:Vis X.env.scope x:=by first|exact Or.inl rfl|exact Or.inr (Or.inl rfl)|exact Or.inr (Or.inr rfl))(hd:(x ==("__debug__" : Str))=false:=by decide)
  (hcd:(x ==("__classdict__" : Str))=false:=by decide):DE X (.Subscript (.Name x p1) ie pos) (zpu i ti) :=
 DE.of (v4 ix_list (y4 (i:=i) hN hv hd hcd) hi.pe hix) λσ H H₀ σD QD ok q=>by
  unfold zpu at q
  split at q
  ·next o eo=>
   split at q
   ·next ms eb=>
    obtain⟨a,us,bs,e1,ea,m,_⟩:=ok.mixAt eo eb;refine⟨.ref a,e1,H₀,σD,_,ok,q,λv H1 d s1 r1 q1=>?_⟩
    cases d with
    |int n=>
     cases r1;obtain⟨k,d,h1,h2,q2⟩:=q1;obtain⟨u,hu,r⟩:=m.at h2;rw[m.len]at h1;exact⟨a,us,n,u,rfl,rfl,SqL.of (s1 _ _ ea),zbt h1 hu,d,s1,Rep.same s1 r,q2⟩
    |_=>exact q1.elim
   ·exact q.elim
  ·exact q.elim
def zjk(i:Nat)(ti te:DTE):DTS:=λDn σ=>match σ[i]? with
 |some (some (.own o))=>match o.bare with
  |.mix ms=>ti σ λn=>match n with
   |.int n=>∃k xs,ixN ms.length n=some k/\ms[k]?=some (.l xs)/\te σ λd=>xs.length<sizeLine/\Dn.nx (clr (σ.set i (some (.own (o.with (.mix (ms.set k (.l (xs ++ [d])))))))))
   |_=>False
  |_=>False
 |_=>False
theorem zpv(i:Nat){x:Str}{p1 p3 apos cpos:Pos}(hi:DE X ie ti)(he:DE X e te)(hix:qx ie)(hN:X.N[i]?=some x:=by rfl)(hv:Vis X.env.scope x:=by first|exact Or.inl rfl|exact Or.inr (Or.inl rfl)|exact Or.inr (Or.inr rfl))(hd:(x ==("__debug__" : Str))=false:=by decide)
  (hcd:(x ==("__classdict__" : Str))=false:=by decide)
  (hbase:attributeBase (.Subscript (.Name x p1) ie p3) "append" X.env (eval (.Subscript (.Name x p1) ie p3) X.env)=eval (.Subscript (.Name x p1) ie p3) X.env:=by rfl)
  (hfew:((backTo cpos (starEach (e :: []) X.env)).all (λx=>!x.1) && (backToKw cpos (keywordEach [] X.env)).all (λx=>x.1.isSome)
   && decide ((e :: []).length+([]:List Keyword).length+(if ([]:List Keyword).isEmpty then 0 else 1)<30))=true:=by rfl)
  (hline:(apos.endLine == cpos.line)=true:=by rfl) (hst:starEach (e :: []) X.env=(false,eval e X.env)::starEach [] X.env:=by rfl) (hplain:(backTo cpos (starEach [] X.env)).any (·.1)=false:=by rfl)
  (hs:swapsWith (.Call (.Attribute (.Subscript (.Name x p1) ie p3) "append" apos) [e] [] cpos) none pos.line X.env=pure false:=by rfl):DS X (.Expr (.Call (.Attribute (.Subscript (.Name x p1) ie p3) "append" apos) [e] [] cpos) pos) (zjk i ti te) :=
 DS.of (zd6 (zlu PySem.F.plainAttrs_list PySem.F.slot_list_append PySem.F.type_list_append qy (v4 ix_list (y4 (i:=i) hN hv hd hcd) hi.pe hix) (yw he.pe x3 hst) hbase hfew hline hst hplain) hs) λσ H H₀ σD Dn ok q=>by
  unfold zjk at q
  split at q
  ·next o eo=>
   split at q
   ·next ms eb=>
    obtain⟨a,us,bs,e1,ea,m,_⟩:=ok.mixAt eo eb;refine⟨.ref a,e1,H₀,σD,_,ok,q,λv0 H0 d0 s0 r0 q0=>?_⟩
    cases d0 with
    |int n=>
     cases r0;obtain⟨k,xs,h1,h2,q⟩:=q0;obtain⟨u,hu,b,vs,rfl,hb,ebb,r⟩:=m.at h2;rw[m.len]at h1;refine⟨a,us,n,_,rfl,rfl,SqL.of (s0 _ _ ea),zbt h1 hu,.inl ⟨rfl,vs,SqL.of (s0 _ _ ebb)⟩,H₀,σD,_,ok.after s0,q,λv H1 d s1 r1 q1=>?_⟩;obtain⟨a',us',bs',e1',ea',m',nd,put⟩:=((ok.after s0).after s1).mixAt eo eb;rw[e1]at e1'
     cases e1';have ea1:=s1 _ _ (s0 _ _ ea);rw[ea1]at ea'
     cases ea';have ebs:=s1 _ _ (s0 _ _ ebb);obtain⟨u',hu',b',vs',e3,hb',ebb',r'⟩:=m'.at h2;rw[hu]at hu'
     cases hu'
     cases e3;rw[ebs]at ebb'
     cases ebb';have ps:Pers H1 (upd H1 b (.lst (vs ++ [v]))):=y9 ebs rfl;have nab:a≠b:=λz=>(List.nodup_cons.mp nd).1 (by rw[z];exact hb');obtain⟨ok2,pr⟩:=put (upd H1 b (.lst (vs ++ [v]))) (ms.set k (.l (xs ++ [d]))) us bs' (λc w' hc hw=>by rw[zv (λz=>hc (by rw[z];exact List.mem_cons_of_mem _ hb'))];exact hw) nd (λc hc=>.inl (List.mem_cons_of_mem _ hc)) (by rw[zv nab];exact ea1)
      (m'.setL ps ((r'.append (.cons r1 .nil)).mono ps) (List.nodup_cons.mp nd).2 h2 hu)
     exact⟨b,vs,v,rfl,rfl,ebs,by rw[<-r'.length];exact q1.1,_,ok2,(s0.trans s1).pers.trans pr,q1.2⟩
    |_=>exact q0.elim
   ·exact q.elim
  ·exact q.elim
def zm8(i:Nat)(ti te:DTE):DTS:=λDn σ=>te σ λd=>match σ[i]? with
 |some (some (.own o))=>match o.bare with
  |.mix ms=>ti σ λn=>match n with
   |.int n=>∃k d0,ixN ms.length n=some k/\ms[k]?=some (.v d0)/\Dn.nx (clr (σ.set i (some (.own (o.with (.mix (ms.set k (.v d))))))))
   |_=>False
  |_=>False
 |_=>False
theorem zbu(i:Nat){x:Str}{p1 tpos:Pos}(he:DE X e te)(hi:DE X ie ti)(hN:X.N[i]?=some x:=by rfl)(hv:Vis X.env.scope x:=by first|exact Or.inl rfl|exact Or.inr (Or.inl rfl)|exact Or.inr (Or.inr rfl))(hd:(x ==("__debug__" : Str))=false:=by decide)
  (hcd:(x ==("__classdict__" : Str))=false:=by decide)
  (ha:∀v,assign (.Subscript (.Name x p1) ie tpos) X.env v=(do
   let ov <-holding [v] (eval (.Name x p1) X.env)
   let iv <-holding [v,ov] (eval ie X.env)
   standAt tpos
   holding [v,ov,iv] (setItem ov iv v)
   release [v,ov,iv] []):=by intro _;rfl)
  (hs:swapsWithSole [.Subscript (.Name x p1) ie tpos] e pos.line X.env=pure false:=by rfl) (hw:swappedStores [.Subscript (.Name x p1) ie tpos] e X.env=pure none:=by rfl)
  (h1:(assignEach [.Subscript (.Name x p1) ie tpos] X.env).map (·.2) = [assign (.Subscript (.Name x p1) ie tpos) X.env]:=by rfl):DS X (.Assign [.Subscript (.Name x p1) ie tpos] e pos) (zm8 i ti te) :=
 DS.of (zd7 he.pe (zg4 (y4 (i:=i) hN hv hd hcd) hi.pe zb2 ha) hs hw h1) λσ H H₀ σD Dn ok q=>⟨H₀,σD,_,ok,q,λv H1 d s1 r1 q1=>by
  split at q1
  ·next o eo=>
   split at q1
   ·next ms eb=>
    obtain⟨a,us,bs,e1,ea,m,_⟩:=(ok.after s1).mixAt eo eb;refine⟨.ref a,e1,H₀,σD,_,ok.after s1,q1,λw' H2 n' s2 r2 q2=>?_⟩
    cases n' with
    |int n=>
     cases r2;obtain⟨k,d0,h1,h2,q2⟩:=q2;obtain⟨a',us',bs',e1',ea',m',nd,put⟩:=((ok.after s1).after s2).mixAt eo eb;rw[e1]at e1'
     cases e1';have ea1:=s2 _ _ ea;rw[ea1]at ea'
     cases ea';have ps:Pers H2 (upd H2 a (.lst (us.set k v))):=y9 ea1 rfl;obtain⟨ok2,pr⟩:=put (upd H2 a (.lst (us.set k v))) (ms.set k (.v d)) (us.set k v) bs' (λc u hc hu=>by rw[zv (λz=>hc (by rw[z];exact List.mem_cons_self))];exact hu) nd (λc hc=>.inl (List.mem_cons_of_mem _ hc)) zq
      ((m'.setV (r1.same s2) h2).keep ps λc hc u hu=>by rw[zv (λz=>(List.nodup_cons.mp nd).1 (by rw[<-z];exact hc))];exact hu)
     exact⟨a,us,n,k,rfl,rfl,ea1,by rw[<-m'.len];exact h1,_,ok2,(s1.pers.trans s2.pers).trans pr,q2⟩
    |_=>exact q2.elim
   ·exact q1.elim
  ·exact q1.elim⟩
end
end L2
namespace SV
open PySem
def Ris(xs:Array Nat):Prop:=xs.toList.Pairwise (· < ·)
theorem Ris.lt{xs:Array Nat}(h:Ris xs){i j:Nat}(hij:i<j)(hj:j<xs.size):xs.getD i 0<xs.getD j 0:=by
 have:=List.pairwise_iff_getElem.mp h i j (by simpa using Nat.lt_trans hij hj) (by simpa using hj) hij;simpa[Array.getD,hj,Nat.lt_trans hij hj]using this
structure Bel(xs:Array Nat)(j b:Nat):Prop where
 le:b<=xs.size
 lo:∀i,i<b->xs.getD i 0<j
 hi:∀i,b<=i->i<xs.size->j<=xs.getD i 0
theorem zf9{xs:Array Nat}{i:Nat}(h:i<xs.size)(d e:Nat):xs.getD i d=xs.getD i e:=by simp[Array.getD,h]
theorem zh2{xs:Array Nat}(h:Ris xs)(j:Nat):∀(fuel lo hi:Nat),hi-lo<=fuel->lo<=hi->hi<=xs.size->(∀i,i<lo->xs.getD i 0<j)->(∀i,hi<=i->i<xs.size->j<=xs.getD i 0)->Bel xs j (SetTable.below.go xs j fuel lo hi)
 |0,lo,hi,hf,hl,hs,h1,h2=>by
  have:lo=hi:=by lia
  subst this;exact⟨hs,h1,h2⟩
 |fuel+1,lo,hi,hf,hl,hs,h1,h2=>by
  unfold SetTable.below.go
  split
  ·next c=>
   dsimp only;have hm:(lo+hi) / 2<hi:=by (clear hf hs;lia)
   have hm':(lo+hi) / 2<xs.size:=by (clear hf;lia)
   by_cases c2:xs.getD ((lo+hi) / 2) j<j
   ·rw[if_pos c2];rw[zf9 hm' j 0]at c2;refine zh2 h j fuel ((lo+hi) / 2+1) hi (by (clear c2;omega)) (by (clear hf hs hm' c2;lia)) hs (λi hi'=>?_) h2
    by_cases e:i=(lo+hi) / 2
    ·rw[e];exact c2
    ·exact Nat.lt_trans (h.lt (by (clear hf hl hs c hm hm' c2;lia)) hm') c2
   ·rw[if_neg c2];rw[zf9 hm' j 0]at c2;refine zh2 h j fuel lo ((lo+hi) / 2) (by (clear hs hm' c2;omega)) (by (clear hf hs hm' c2;lia)) (by (clear hf c2;lia)) h1 (λi hi' his=>?_)
    by_cases e:i=(lo+hi) / 2
    ·rw[e];(clear hf hl hs c hm hm' hi' his e;omega)
    ·have:=h.lt (i:=(lo+hi) / 2) (j:=i) (by (clear hf hl hs c hm hm' c2 his;lia)) his;(clear hf hl hs c hm hm' hi' his;omega)
  ·next c=>
   have:lo=hi:=by (clear hf hs;lia)
   subst this;exact⟨hs,h1,h2⟩
theorem kv{xs:Array Nat}(h:Ris xs)(j:Nat):Bel xs j (SetTable.below xs j) :=
 zh2 h j xs.size 0 xs.size (by lia) (Nat.zero_le _) (Nat.le_refl _) (λi hi=>absurd hi (Nat.not_lt_zero _)) λi h1 h2=>by omega
theorem mem_getD{xs:Array Nat}{x:Nat}(h:x∈xs.toList):∃i,i<xs.size/\xs.getD i 0=x:=by
 obtain⟨i,hi,e⟩:=List.getElem_of_mem h;have hi':i<xs.size:=by simpa using hi
 exact⟨i,hi',by simpa[Array.getD,hi']using e⟩
def Not(xs:Array Nat)(j:Nat):Prop:=xs[SetTable.below xs j]?≠some j
theorem Not.nmem{xs:Array Nat}(h:Ris xs){j:Nat}(n:Not xs j):j∉xs.toList:=λhm=>by
 obtain⟨i,hi,e⟩:=mem_getD hm;have b:=kv h j;have h1:¬ i<SetTable.below xs j:=λc=>by have:=b.lo i c;omega
 have h2:¬ SetTable.below xs j<i:=λc=>by
  have:=h.lt c hi;have:=b.hi _ (Nat.le_refl _) (by lia);omega
 have e2:i=SetTable.below xs j:=by lia
 subst e2;refine n ?_;simp[Array.getD,hi]at e;rw[Array.getElem?_eq_getElem hi,e]
theorem xm{α:Type}(xs:Array α)(p:Nat)(x:α)(hp:p<=xs.size):(SetTable.insertAt xs p x).toList=xs.toList.take p++x::xs.toList.drop p:=by
 unfold SetTable.insertAt;simp[List.take_of_length_le]
theorem zpw{xs:Array Nat}(h:Ris xs){j:Nat}(n:Not xs j):Ris (SetTable.insertAt xs (SetTable.below xs j) j):=by
 have b:=kv h j;have nm:=n.nmem h;unfold Ris;rw[xm _ _ _ b.le];have ht:∀x∈xs.toList.take (SetTable.below xs j),x<j:=λx hx=>by
  obtain⟨i,hi,e⟩:=List.getElem_of_mem hx;rw[List.length_take]at hi;rw[List.getElem_take]at e;have his:i<xs.size:=by simp at hi;(clear e;lia)
  have:=b.lo i (by (clear e his;lia));simp[Array.getD,his]at this;rw[<-e];simpa using this
 have hd:∀x∈xs.toList.drop (SetTable.below xs j),j<x:=λx hx=>by
  have hmem:=List.mem_of_mem_drop hx;obtain⟨i,hi,e⟩:=List.getElem_of_mem hx;rw[List.length_drop]at hi;rw[List.getElem_drop]at e;have his:SetTable.below xs j+i<xs.size:=by simp at hi;(clear e;omega)
  have h3:=b.hi (SetTable.below xs j+i) (by (clear hi e his;lia)) his;simp[Array.getD,his]at h3;simp at e;have:j≠x:=λz=>nm (z ▸ hmem);lia
 refine List.pairwise_append.mpr ⟨h.sublist (List.take_sublist _ _),List.pairwise_cons.mpr ⟨hd,h.sublist (List.drop_sublist _ _)⟩,λa ha c hc=>?_⟩;have h1:=ht a ha;rcases List.mem_cons.mp hc with rfl|hc
 ·exact h1
 ·exact Nat.lt_trans h1 (hd c hc)
theorem zga{t:SetTable}{j:Nat}(h:∀i,t.slot j ≠ .live i):Not t.place j:=λe=>by
 refine h (SetTable.below t.place j) ?_;unfold SetTable.slot;simp[e]
theorem zm9{mask f m:Nat}{led pl:Bool}{hs:Array Int}{t':SetTable}{o:Array Nat}(e:SetTable.laid mask f m led pl hs=some (t',o)):Ris t'.place/\t'.led=led:=by
 unfold SetTable.laid at e
 cases ho:SetTable.layClean mask hs with
 |none=>rw[ho]at e;cases e
 |some owner=>
  rw[ho]at e;simp only[Option.bind_eq_bind,Option.bind_some,Option.pure_def,Option.some.injEq,Prod.mk.injEq]at e;obtain⟨e1,_⟩:=e;subst e1;refine⟨?_,rfl⟩;unfold Ris;simp only[];rw[List.map_filterMap];refine List.Pairwise.filterMap _ (λa a' haa b hb b' hb'=>?_) List.pairwise_lt_range;simp only[Option.map_eq_some_iff]at hb hb';obtain⟨_,⟨_,_,rfl⟩,rfl⟩:=hb;obtain⟨_,⟨_,_,rfl⟩,rfl⟩:=hb';exact haa
end SV
namespace SV
open PySem
def Tb(w:World)(t:SetTable):Prop:=Ris t.place/\t.led = !w.params.followText "set-order"
end SV
namespace PySem
namespace F
theorem slot_set_iterator_next:Slot "set_iterator" "__next__" "set_iterator.__next__" :=
 .of (owner := "set_iterator") (n := "__next__") (by rw[typeLookup_type,builtinLookup_eq_fast];kernel_rfl) (by decide +kernel) (by decide +kernel) (by decide +kernel)
  (by first|exact .inl (by decide +kernel)|exact .inr (by decide +kernel)) (by rw[isSubtype_type];kernel_rfl)
theorem entry_set_iterator_next:entryFor table "set_iterator.__next__" = some Builtin.«set_iterator.__next__»:=entryFor_of_tree (by kernel_rfl)
theorem args_set_iterator_next_1(a:Value):argsOk "set_iterator.__next__" ⟨[a],[]⟩:=by
 unfold argsOk;kernel_rfl
theorem entry_set_iter:entryFor table "set.__iter__" = some Builtin.«frozenset.__iter__» :=
 entryFor_alias (id' := "frozenset.__iter__") (by kernel_rfl) rfl (by decide +kernel) (by kernel_rfl)
theorem slot_set_iterator_iter:Slot "set_iterator" "__iter__" "set_iterator.__iter__" :=
 .of (owner := "set_iterator") (n := "__iter__") (by rw[typeLookup_type,builtinLookup_eq_fast];kernel_rfl) (by decide +kernel) (by decide +kernel) (by decide +kernel)
  (by first|exact .inl (by decide +kernel)|exact .inr (by decide +kernel)) (by rw[isSubtype_type];kernel_rfl)
theorem entry_set_iterator_iter:entryFor table "set_iterator.__iter__" = some Builtin.«dict_keyiterator.__iter__» :=
 entryFor_alias (id' := "dict_keyiterator.__iter__") (by kernel_rfl) (by first|rfl|decide +kernel |(unfold String.splitOn;simp +decide [String.splitOnAux])) (by decide +kernel) (by kernel_rfl)
theorem args_set_iterator_iter_1(a:Value):argsOk "set_iterator.__iter__" ⟨[a],[]⟩:=by
 unfold argsOk;kernel_rfl
end F
section
variable {prog:Program}{w:World}{A:Around}{E:Value->Shared->Prop}{s:Shared}{a:Addr}{o:Obj}{es:Array (Int×Value)}{ep:Nat}{t:SetTable}
theorem w5{slot given then_:Nat}{Q:Option (Value×Nat)->Shared->Prop}(ho:s.heap.get? a=some o)(hd:o.data=.set es ep t)(hf:t.fits es.size=true)(hT:w.params.followText "set-order" = false)(hp:(!t.plain && decide (es.size > 1))=false)(hl:t.led=true)
  (h:Q (match es[SetTable.below t.place slot]?,t.place[SetTable.below t.place slot]? with|some (_,x),some j=>some (x,j+1)|_,_=>none) s):wpAny (model prog w) A (setNext a slot given then_) Q E s:=by
 unfold setNext;refine wpAny_bind (wpAny_setState_of ho hd hf ?_);dsimp only;unfold setsByText;refine wpAny_bind (wpAny_bind (wpAny_askSetting (wpAny_pure ?_)));refine wpAny_ite_split (λhab=>absurd (show w.params.followText "set-order" = true from hab) (by rw[hT];decide)) (λ_=>?_);refine wpAny_ite_split (λhab=>absurd (show(!t.plain && decide (es.size > 1))=true from hab) (by rw[hp];decide)) (λ_=>?_);refine wpAny_bind ?_;show wpAny _ _ (if (!t.led && !es.isEmpty)=true then unsupported _ else pure ()) _ _ _;rw[hl];exact wpAny_pure (wpAny_pure h)
theorem vv{slot given then_:Nat}{Q:Option (Value×Nat)->Shared->Prop}(ho:s.heap.get? a=some o)(hd:o.data=.set es ep t)(hf:t.fits es.size=true)(hT:w.params.followText "set-order" = true)(he:then_=ep)
  (h:Q (((pickOrder (w.params.setOrder a ep) es)[given]?).map λe=>(e.2,slot)) s):wpAny (model prog w) A (setNext a slot given then_) Q E s:=by
 unfold setNext;refine wpAny_bind (wpAny_setState_of ho hd hf ?_);dsimp only;unfold setsByText;refine wpAny_bind (wpAny_bind (wpAny_askSetting (wpAny_pure ?_)));refine wpAny_ite_split (λ_=>?_) (λhab=>absurd (show w.params.followText "set-order" = true from hT) hab);refine wpAny_ite_split (λhab=>absurd hab (by rw[he];simp)) (λ_=>?_);refine wpAny_bind ?_;unfold setWalk;refine wpAny_bind (wpAny_setState_of ho hd hf ?_);dsimp only;unfold setsByText;refine wpAny_bind (wpAny_bind (wpAny_askSetting (wpAny_pure ?_)));refine wpAny_ite_split (λ_=>?_) (λhab=>absurd (show w.params.followText "set-order" = true from hT) hab);exact wpAny_bind (wpAny_askSetting (wpAny_pure (wpAny_pure h)))
end
end PySem
namespace PySem
section
variable {prog:Program}{w:World}{A:Around}{E:Value->Shared->Prop}{s:Shared}{a:Addr}{o:Obj}{es:Array (Int×Value)}{ep:Nat}{t:SetTable}
def IsSI(h:Heap)(I:Addr)(fs:Array Value):Prop:=∃u,h.get? I=some u/\u.cls=.type "set_iterator" /\ u.data=.fields fs
theorem IsSI.ty{I:Addr}{fs:Array Value}(h:IsSI s.heap I fs):s.TypeIs (.ref I) "set_iterator" := let ⟨u,hu,hc,_⟩:=h;⟨u,hu,hc⟩
theorem zjl{I:Addr}{i slot nx:Nat}{x:Value}{Q:Option Value->Shared->Prop}(hit:IsSI s.heap I #[rawInt slot,rawInt i,.ref a,rawInt es.size,rawInt ep])(ho:s.heap.get? a=some o)(hd:o.data=.set es ep t)(hf:t.fits es.size=true)
  (hn:∀(A':Around) (E':Value->Shared->Prop) (Q':Option (Value×Nat)->Shared->Prop),Q' (some (x,nx)) s->wpAny (model prog w) A' (setNext a slot i ep) Q' E' s)
  (hQ:∀h',IsSI h' I #[rawInt nx,rawInt (i+1:Nat),.ref a,rawInt es.size,rawInt ep]->Heap.SameBut I s.heap h'->Q (some x) { s with heap:=h' }):wpAny (model prog w) A (pyNext (.ref I)) Q E s:=by
 obtain⟨u,hu,hc,hdu⟩:=id hit;unfold pyNext;refine wpAny_bind (wpAny_attempt (wpAny_callSpecial?_slot (name:=Str.ofString "__next__") hit.ty F.slot_set_iterator_next
  (wpAny_call_entry F.slot_set_iterator_next hit.ty F.entry_set_iterator_next ?_ (F.args_set_iterator_next_1 _))))
 show wpAny _ _ (fieldsOf (.ref I) >>= _) _ _ s;refine wpAny_bind (wpAny_fieldsOf hu hdu ?_);show wpAny _ _ (setEntries a >>= _) _ _ s;refine wpAny_bind (wpAny_setEntries_of ho hd hf ?_);refine wpAny_ite_split (λhab=>absurd hab (by simp[rawInt])) (λ_=>?_);show wpAny _ _ (setNext a ((slot:Int).toNat) ((i:Int).toNat) ((ep:Int).toNat) >>= _) _ _ s;simp only[Int.toNat_natCast];refine wpAny_bind (hn _ _ _ ?_);dsimp only;refine wpAny_bind (wpAny_setField hu hdu (by simp) ?_);have h1:=Heap.get?_update_self (Obj.mapFields λv=>v.setIfInBounds 0 (rawInt (nx:Int))) hu (Obj.isFreed_of_fields (Obj.data_mapFields hdu _));refine wpAny_bind (wpAny_setField h1 (Obj.data_mapFields hdu _) (by simp) ?_);refine wpAny_pure ⟨x,rfl,wpAny_pure (hQ _ ?_ ((Heap.SameBut.update ..).trans (Heap.SameBut.update ..)))⟩;refine⟨_,Heap.get?_update_self _ h1 (Obj.isFreed_of_fields (Obj.data_mapFields (Obj.data_mapFields hdu _) _)),(Obj.cls_mapFields ..).trans ((Obj.cls_mapFields ..).trans hc),?_⟩;rw[Obj.data_mapFields (Obj.data_mapFields hdu _)];simp[rawInt]
theorem zjm{I:Addr}{fs:Array Value}{u:Obj}{Q:Option Value->Shared->Prop}(hh:A.handled=none)(hu:s.heap.get? I=some u)(hdu:u.data=.fields fs)(hs:2<fs.size)
  (hQ:∀h',Heap.ExtBut I s.heap h'->Q none { s with heap:=h' }) :
  wpAny (model prog w) A.in1 (do setField (.ref I) 2 .none;raiseNew (<-newExc (.type "StopIteration") []):Sem Fin) (λfin s'=>∃v,fin=Fin.done (Flow.ret v)/\wpAny (model prog w) A (pure (some v)) Q E s')
  (λe s'=>wpAny (model prog w) A (do if <-isInstance e (Value.type "StopIteration") then pure none else throw e) Q E s') s:=by
 refine wpAny_bind (wpAny_setField hu hdu hs ?_);show wpAny _ _ (newExc (.type "StopIteration") [] >>= _) _ _ _;refine wpAny_bind ?_;simp only[newExc,newTuple];refine wpAny_bind (wpAny_newObj_type ?_ (by size_fits));refine wpAny_bind (m:=firstArgMember _ _) (wpAny_of_eq (a:=Value.none) (by first|rfl |(simp only[firstArgMember];rfl)) ?_);refine wpAny_newObj_type ?_ (by size_fits);simp only[raiseNew];refine wpAny_bind (wpAny_handled ?_)
 first|rw[show A.in1.handled=none from hh]|rw[hh]
 refine wpAny_bind (wpAny_pure (wpAny_throw ?_));refine wpAny_bind (wpAny_isInstance (T := "StopIteration") (b:=true) ⟨_,Heap.get?_push_size _ rfl,rfl⟩ isSubtype_stop ?_);exact wpAny_pure (hQ _ (((Heap.SameBut.update ..).extBut.push _).push _))
theorem zjn{I:Addr}{i slot:Nat}{Q:Option Value->Shared->Prop}(hh:A.handled=none)(hit:IsSI s.heap I #[rawInt slot,rawInt i,.ref a,rawInt es.size,rawInt ep])(ho:s.heap.get? a=some o)(hd:o.data=.set es ep t)(hf:t.fits es.size=true)
  (hn:∀(A':Around) (E':Value->Shared->Prop) (Q':Option (Value×Nat)->Shared->Prop),Q' none s->wpAny (model prog w) A' (setNext a slot i ep) Q' E' s)
  (hQ:∀h',Heap.ExtBut I s.heap h'->Q none { s with heap:=h' }):wpAny (model prog w) A (pyNext (.ref I)) Q E s:=by
 obtain⟨u,hu,hc,hdu⟩:=id hit;unfold pyNext;refine wpAny_bind (wpAny_attempt (wpAny_callSpecial?_slot (name:=Str.ofString "__next__") hit.ty F.slot_set_iterator_next
  (wpAny_call_entry F.slot_set_iterator_next hit.ty F.entry_set_iterator_next ?_ (F.args_set_iterator_next_1 _))))
 show wpAny _ _ (fieldsOf (.ref I) >>= _) _ _ s;refine wpAny_bind (wpAny_fieldsOf hu hdu ?_);show wpAny _ _ (setEntries a >>= _) _ _ s;refine wpAny_bind (wpAny_setEntries_of ho hd hf ?_);refine wpAny_ite_split (λhab=>absurd hab (by simp[rawInt])) (λ_=>?_);show wpAny _ _ (setNext a ((slot:Int).toNat) ((i:Int).toNat) ((ep:Int).toNat) >>= _) _ _ s;simp only[Int.toNat_natCast];refine wpAny_bind (hn _ _ _ ?_);exact zjm hh hu hdu (by simp) hQ
theorem zpx{I tp:Addr}{i p:Nat}{ps:Array Value}{e:Int×Value}{Q:Option Value->Shared->Prop}(hit:IsSI s.heap I #[.ref tp,rawInt i,.ref a,rawInt es.size,rawInt ep])(ht:s.heap.IsTuple tp ps)(hp:ps[i]?=some (rawInt p))(he:es[p]?=some e)
  (ho:s.heap.get? a=some o) (hd:o.data=.set es ep t) (hf:t.fits es.size=true)
  (hQ:∀h',IsSI h' I #[.ref tp,rawInt (i+1:Nat),.ref a,rawInt es.size,rawInt ep]->Heap.SameBut I s.heap h'->Q (some e.2) { s with heap:=h' }):wpAny (model prog w) A (pyNext (.ref I)) Q E s:=by
 obtain⟨u,hu,hc,hdu⟩:=id hit;obtain⟨ot,hot,_,nt,hdt⟩:=ht;unfold pyNext;refine wpAny_bind (wpAny_attempt (wpAny_callSpecial?_slot (name:=Str.ofString "__next__") hit.ty F.slot_set_iterator_next
  (wpAny_call_entry F.slot_set_iterator_next hit.ty F.entry_set_iterator_next ?_ (F.args_set_iterator_next_1 _))))
 show wpAny _ _ (fieldsOf (.ref I) >>= _) _ _ s;refine wpAny_bind (wpAny_fieldsOf hu hdu ?_);show wpAny _ _ (setEntries a >>= _) _ _ s;refine wpAny_bind (wpAny_setEntries_of ho hd hf ?_);refine wpAny_ite_split (λhab=>absurd hab (by simp[rawInt])) (λ_=>?_);show wpAny _ _ (seqItems? (.ref tp) >>= _) _ _ s;refine wpAny_bind (wpAny_seqItems hot hdt ?_);simp only[Int.toNat_natCast,hp,rawInt];unfold setNextDrawn;refine wpAny_bind (wpAny_bind (wpAny_setState_of ho hd hf ?_));refine wpAny_ite_split (λhab=>absurd hab (by simp)) (λ_=>?_);simp only[he];refine wpAny_pure ?_;refine wpAny_bind (wpAny_setField hu hdu (by simp) (wpAny_pure ⟨e.2,rfl,wpAny_pure (hQ _ ?_ (Heap.SameBut.update ..))⟩));exact⟨_,Heap.get?_update_self _ hu (Obj.isFreed_of_fields (Obj.data_mapFields hdu _)),(Obj.cls_mapFields ..).trans hc,by
  rw[Obj.data_mapFields hdu];simp[rawInt]⟩
theorem zpy{I tp:Addr}{i:Nat}{ps:Array Value}{Q:Option Value->Shared->Prop}(hh:A.handled=none)(hit:IsSI s.heap I #[.ref tp,rawInt i,.ref a,rawInt es.size,rawInt ep])(ht:s.heap.IsTuple tp ps)(hp:ps[i]?=none)
  (ho:s.heap.get? a=some o) (hd:o.data=.set es ep t) (hf:t.fits es.size=true)
  (hQ:∀h',Heap.ExtBut I s.heap h'->Q none { s with heap:=h' }):wpAny (model prog w) A (pyNext (.ref I)) Q E s:=by
 obtain⟨u,hu,hc,hdu⟩:=id hit;obtain⟨ot,hot,_,nt,hdt⟩:=ht;unfold pyNext;refine wpAny_bind (wpAny_attempt (wpAny_callSpecial?_slot (name:=Str.ofString "__next__") hit.ty F.slot_set_iterator_next
  (wpAny_call_entry F.slot_set_iterator_next hit.ty F.entry_set_iterator_next ?_ (F.args_set_iterator_next_1 _))))
 show wpAny _ _ (fieldsOf (.ref I) >>= _) _ _ s;refine wpAny_bind (wpAny_fieldsOf hu hdu ?_);show wpAny _ _ (setEntries a >>= _) _ _ s;refine wpAny_bind (wpAny_setEntries_of ho hd hf ?_);refine wpAny_ite_split (λhab=>absurd hab (by simp[rawInt])) (λ_=>?_);show wpAny _ _ (seqItems? (.ref tp) >>= _) _ _ s;refine wpAny_bind (wpAny_seqItems hot hdt ?_);simp only[Int.toNat_natCast,hp];have h1:=Heap.get?_update_self (Obj.mapFields λv=>v.setIfInBounds 0 (rawInt 0)) hu (Obj.isFreed_of_fields (Obj.data_mapFields hdu _));refine wpAny_bind (wpAny_setField hu hdu (by simp) ?_);exact zjm (s:={ s with heap:=s.heap.update I (Obj.mapFields λv=>v.setIfInBounds 0 (rawInt 0)) }) hh h1 (Obj.data_mapFields hdu _) (by simp) λh' he=>hQ h' λb o hb e=>he b o hb ((Heap.SameBut.update ..).extBut b o hb e)
theorem x6{I:Addr}{fs:Array Value}{Q:Value->Shared->Prop}(hit:IsSI s.heap I fs)(h:Q (.ref I) s):wpAny (model prog w) A (pyIter (.ref I)) Q E s:=by
 refine wpAny_pyIter_slot hit.ty F.slot_set_iterator_iter (wpAny_call_entry F.slot_set_iterator_iter hit.ty F.entry_set_iterator_iter ?_ (F.args_set_iterator_iter_1 _));show wpAny _ _ (ret (.ref I)) _ _ s;exact wpAny_pure ⟨_,rfl, "set_iterator",_,hit.ty,F.slot_set_iterator_next.lookup,h⟩
theorem jk{α:Type}:∀{xs:List α}{i:Nat} (h:i<xs.length),(xs[i]::xs.eraseIdx i).Perm xs
 |x::xs,0,h=>by simp
 |x::xs,i+1,h=>by
  have:=jk (xs:=xs) (i:=i) (by simpa using h);simp only[List.getElem_cons_succ,List.eraseIdx_cons_succ];exact(List.Perm.swap _ _ _).trans (this.cons x)
theorem zh3{src:Source}{n:Nat}{Q:Nat->Shared->Prop}(hn:n≠0)(h:∀i d',i<n->Q i { s with drawn:=d' }):wpAny (model prog w) A (choose src n) Q E s:=λ_ _ _=>⟨hn,h _ _ (Nat.mod_lt _ (Nat.pos_of_ne_zero hn))⟩
theorem zaf{α:Type}:∀(n:Nat) (xs:List α) (s:Shared) (Q:List α->Shared->Prop),n=xs.length->(∀ys d',ys.Perm xs->Q ys { s with drawn:=d' })->wpAny (model prog w) A (drawOrder n xs) Q E s
 |0,xs,s,Q,hn,h=>by
  cases xs with
  |nil=>unfold drawOrder;exact wpAny_pure (h [] s.drawn (List.Perm.refl _))
  |cons x xs=>cases hn
 |n+1,[],s,Q,hn,h=>by cases hn
 |n+1,x::xs,s,Q,hn,h=>by
  unfold drawOrder;refine wpAny_bind (zh3 (by simp) λi d' hi=>?_);rw[List.getElem?_eq_getElem hi];dsimp only;refine wpAny_bind (zaf n _ _ _ (by rw[List.length_eraseIdx_of_lt hi];simp at hn;simp[hn]) λys d2 p=>wpAny_pure (h _ d2 ?_));exact(p.cons _).trans (jk hi)
def zag(f:Value)(a:Addr)(n ep:Nat):Obj:={ cls:=.type "set_iterator",data:=.fields #[f,rawInt 0,.ref a,rawInt n,rawInt ep] }
theorem zav{Q:Value->Shared->Prop}(ho:s.heap.get? a=some o)(hex:o.ExactSet)(hd:o.data=.set es ep t)(hf:t.fits es.size=true)(hz:es.size<=sizeLine)
  (hA:w.params.followText "set-order" = true\/(w.params.followText "set-order" = false/\(!t.plain && decide (es.size > 1))=false)->Q (.ref s.heap.objs.size) { s with heap:=s.heap.push (zag (rawInt 0) a es.size ep) })
  (hB:∀(ys:List Nat) d',ys.Perm (List.range es.size)->Q (.ref (s.heap.objs.size+1)) { s with heap:=(s.heap.push { cls:=.type "tuple",data:=.seq (ys.map λi:Nat=>rawInt i).toArray }).push (zag (.ref s.heap.objs.size) a es.size ep),drawn:=d' }):wpAny (model prog w) A (pyIter (.ref a)) Q E s:=by
 have hT:s.TypeIs (.ref a) "set" :=⟨o,ho,hex.1⟩
 refine wpAny_pyIter_slot hT F.slot_set_iter (wpAny_call_entry F.slot_set_iter hT F.entry_set_iter ?_ (F.args_set_iter_1 _));unfold Builtin.«frozenset.__iter__»;refine wpAny_bind (m:=Builtin.Frozenset.slot0 _ _) (wpAny_of_eq (a:=a) rfl ?_);unfold Builtin.Frozenset.sizeOf;refine wpAny_bind (wpAny_bind (wpAny_setEntries_of ho hd hf (wpAny_pure ?_)));unfold setDrawn setsByText;refine wpAny_bind (wpAny_bind (wpAny_setState_of ho hd hf ?_));refine wpAny_bind (wpAny_bind (wpAny_askSetting (wpAny_pure ?_)));refine wpAny_pure ?_;dsimp only;refine wpAny_ite_split (λhab=>?_) (λhab=>?_)
 ·refine wpAny_bind (zaf _ _ _ _ (by simp) λys d' p=>?_);refine wpAny_bind (wpAny_newTuple ?_ (by rw[List.length_map,p.length_eq,List.length_range];exact hz));have ho1:(s.heap.push { cls:=.type "tuple",data:=.seq (ys.map λi:Nat=>rawInt i).toArray }).get? a=some o:=Heap.get?_push_of_some _ ho;unfold setEpoch;refine wpAny_bind (wpAny_bind (wpAny_setState_of ho1 hd hf (wpAny_pure ?_)));refine wpAny_bind (wpAny_newObj_type (wpAny_pure ⟨_,rfl, "set_iterator",_,⟨_,Heap.get?_push_size _ rfl,rfl⟩,F.slot_set_iterator_next.lookup,?_⟩));have:=hB ys d' p;rw[show(s.heap.push { cls:=.type "tuple",data:=.seq (ys.map λi:Nat=>rawInt i).toArray }).objs.size=s.heap.objs.size+1 from Heap.size_push ..];exact this
 ·refine wpAny_bind (wpAny_pure ?_);unfold setEpoch;refine wpAny_bind (wpAny_bind (wpAny_setState_of ho hd hf (wpAny_pure ?_)));refine wpAny_bind (wpAny_newObj_type (wpAny_pure ⟨_,rfl, "set_iterator",_,⟨_,Heap.get?_push_size _ rfl,rfl⟩,F.slot_set_iterator_next.lookup,?_⟩));refine hA ?_
  cases hb:w.params.followText "set-order" with
  |true=>exact .inl rfl
  |false=>
   refine .inr ⟨rfl,?_⟩;have h2:¬ ((!(w.params.followText "set-order")) && (!t.plain && decide (es.size > 1)))=true:=hab;rw[hb]at h2;simpa using h2
end
end PySem
namespace SV
open PySem
def sl(t:SetTable)(i:Nat):Nat:=if i=0 then 0 else t.place.getD (i-1) 0+1
theorem bel_sl{t:SetTable}(h:Ris t.place){i:Nat}(hi:i<=t.place.size):SetTable.below t.place (sl t i)=i:=by
 have b:=kv h (sl t i);have h1:¬ SetTable.below t.place (sl t i)<i:=λc=>by
  have h2:=b.hi _ (Nat.le_refl _) (by lia);unfold sl at h2;rw[if_neg (by (clear hi h2;lia))]at h2
  by_cases e:SetTable.below t.place (sl t i)=i-1
  ·unfold sl at e;rw[if_neg (by omega)]at e;rw[e]at h2;omega
  ·have h3:=h.lt (i:=SetTable.below t.place (sl t i)) (j:=i-1) (by (clear hi h2;lia)) (by lia);unfold sl at h3;rw[if_neg (by omega)]at h3;omega
 have h4:¬ i<SetTable.below t.place (sl t i):=λc=>by
  have h2:=b.lo i c;have hs:i<t.place.size:=by have:=b.le;lia
  unfold sl at h2
  by_cases z:i=0
  ·rw[if_pos z]at h2;omega
  ·rw[if_neg z]at h2;have h3:=h.lt (i:=i-1) (j:=i) (by (clear hi h1 c h2 hs;lia)) hs;(clear hi h1 c hs;omega)
 lia
theorem zjo{α:Type}{next:Nat->Nat}:∀(fuel k:Nat) (left:List α) (out:Array α),fuel=left.length->(pickOrder.go next fuel k left out).toList.Perm (out.toList++left)
 |0,k,left,out,h=>by
  cases left with
  |nil=>simp[pickOrder.go]
  |cons x l=>cases h
 |fuel+1,k,left,out,h=>by
  have hi:next k % left.length<left.length:=Nat.mod_lt _ (by lia);unfold pickOrder.go;rw[List.getElem?_eq_getElem hi];dsimp only;refine(zjo fuel (k+1) _ _ (by rw[List.length_eraseIdx_of_lt hi];lia)).trans ?_;rw[Array.toList_push,List.append_assoc];exact List.Perm.append_left _ (jk hi)
theorem pick_perm{α:Type}(next:Nat->Nat)(xs:Array α):(pickOrder next xs).toList.Perm xs.toList:=by
 have:=zjo (next:=next) xs.size 0 xs.toList #[] (by simp);simpa[pickOrder]using this
end SV
namespace PySem
section
variable {prog:Program}{w:World}{A:Around}{E:Value->Shared->Prop}{s:Shared}{a:Addr}{o:Obj}{es:Array (Int×Value)}{ep:Nat}{t:SetTable}
theorem IsSI.at{h h':Heap}{I:Addr}{fs:Array Value}(x:IsSI h I fs)(e:∀o,h.get? I=some o->h'.get? I=some o):IsSI h' I fs:=let ⟨u,hu,r⟩:=x;⟨u,e _ hu,r⟩
theorem zgb(hh:A.handled=none)(I:Addr)(hne:a≠I)(hd:o.data=.set es ep t)(hf:t.fits es.size=true)(tb:SV.Tb w t)(hT:w.params.followText "set-order" = false)(hp:(!t.plain && decide (es.size > 1))=false):
  Walks prog w A I [I,a] [I] es.size (λi v=>(es.toList.map (·.2))[i]?=some v) (λi h=>i<=es.size/\IsSI h I #[rawInt (SV.sl t i),rawInt i,.ref a,rawInt es.size,rawInt ep]/\h.get? a=some o):=by
 have hs:t.place.size=es.size:=by
  simp only[SetTable.fits,Bool.and_eq_true,beq_iff_eq]at hf;exact hf.1
 have hl:t.led=true:=by rw[tb.2,hT];rfl
 exact{
  sub:=λb hb=>by simp at hb;simp[hb]
  frame:=λ_ _ _ st hk=>⟨st.1,st.2.1.at λo e=>hk I (by simp) o e,hk a (by simp) _ st.2.2⟩
  item:=λi s Q E hi st hQ=>by
   have e0:SetTable.below t.place (SV.sl t i)=i:=SV.bel_sl tb.1 (by lia);have hx:es[i]?=some es[i]:=by simp[hi]
   have hy:t.place[i]?=some (t.place[i]'(by lia)):=by simp[hs,hi]
   refine zjl (x:=es[i].2) (nx:=SV.sl t (i+1)) st.2.1 st.2.2 hd hf (λA' E' Q' q=>w5 st.2.2 hd hf hT hp hl ?_) λh' hit' hs'=>?_
   ·rw[e0,hx,hy];have:SV.sl t (i+1)=(t.place[i]'(by lia))+1:=by simp[SV.sl,Array.getD,hs,hi]
    rw[this]at q;exact q
   ·exact hQ _ h' s.toks (by simp[hi]) ⟨by lia,hit',hs'.extBut a _ hne st.2.2⟩ λb o hb e=>hs'.extBut b o (λh=>hb (by simp[h])) e
  done:=λs Q E st hQ=>by
   have e0:SetTable.below t.place (SV.sl t es.size)=es.size:=SV.bel_sl tb.1 (by lia);refine zjn hh st.2.1 st.2.2 hd hf (λA' E' Q' q=>w5 st.2.2 hd hf hT hp hl ?_) λh' he'=>hQ h' s.toks λb o hb e=>he' b o (λh=>hb (by simp[h])) e;rw[e0];simpa using q
  self:=λ_ _ _ _ st hQ=>x6 st.2.1 hQ }
theorem zh4(hh:A.handled=none)(I:Addr)(hne:a≠I)(hd:o.data=.set es ep t)(hf:t.fits es.size=true)(hT:w.params.followText "set-order" = true):
  Walks prog w A I [I,a] [I] es.size (λi v=>((pickOrder (w.params.setOrder a ep) es).toList.map (·.2))[i]?=some v) (λi h=>IsSI h I #[rawInt 0,rawInt i,.ref a,rawInt es.size,rawInt ep]/\h.get? a=some o):=by
 have hs:(pickOrder (w.params.setOrder a ep) es).size=es.size:=by
  have:=(SV.pick_perm (w.params.setOrder a ep) es).length_eq;simpa using this
 exact{
  sub:=λb hb=>by simp at hb;simp[hb]
  frame:=λ_ _ _ st hk=>⟨st.1.at λo e=>hk I (by simp) o e,hk a (by simp) _ st.2⟩
  item:=λi s Q E hi st hQ=>by
   have hx:(pickOrder (w.params.setOrder a ep) es)[i]?=some ((pickOrder (w.params.setOrder a ep) es)[i]'(by lia)):=by simp[hs,hi]
   refine zjl (slot:=0) (nx:=0) (x:=((pickOrder (w.params.setOrder a ep) es)[i]'(by omega)).2) st.1 st.2 hd hf (λA' E' Q' q=>vv st.2 hd hf hT rfl ?_) λh' hit' hs'=>?_
   ·rw[hx];exact q
   ·exact hQ _ h' s.toks (by simp[hs,hi]) ⟨hit',hs'.extBut a _ hne st.2⟩ λb o hb e=>hs'.extBut b o (λh=>hb (by simp[h])) e
  done:=λs Q E st hQ=>by
   refine zjn (slot:=0) hh st.1 st.2 hd hf (λA' E' Q' q=>vv st.2 hd hf hT rfl ?_) λh' he'=>hQ h' s.toks λb o hb e=>he' b o (λh=>hb (by simp[h])) e;rw[Array.getElem?_eq_none (by lia)];exact q
  self:=λ_ _ _ _ st hQ=>x6 st.1 hQ }
theorem zgc(hh:A.handled=none)(I tp:Addr)(hne:a≠I)(hnt:tp≠I)(hd:o.data=.set es ep t)(hf:t.fits es.size=true){ys:List Nat}(hp:ys.Perm (List.range es.size)):
  Walks prog w A I [I,a,tp] [I] es.size (λi v=>((ys.filterMap (es[·]?)).map (·.2))[i]?=some v) (λi h=>IsSI h I #[.ref tp,rawInt i,.ref a,rawInt es.size,rawInt ep]/\h.get? a=some o/\h.IsTuple tp (ys.map λi:Nat=>rawInt i).toArray):=by
 have hl:ys.length=es.size:=by rw[hp.length_eq,List.length_range]
 have hm:∀i (hi:i<ys.length),ys[i] < es.size:=λi hi=>List.mem_range.mp (hp.mem_iff.mp (List.getElem_mem hi));have hfm:∀(zs:List Nat),(∀z∈zs,z<es.size)->∀i (hi:i<zs.length),(zs.filterMap (es[·]?))[i]?=es[zs[i]]?:=λzs=>by
  induction zs with
  |nil=>intro _ i hi;simp at hi
  |cons z zs ih=>
   intro h i hi;have hz:=h z List.mem_cons_self;rw[List.filterMap_cons_some (b:=es[z]) (by simp[hz])]
   cases i with
   |zero=>simp[hz]
   |succ i=>
    have:=ih (λy hy=>h y (List.mem_cons_of_mem _ hy)) i (by simpa using hi);simpa using this
 have hall:∀z∈ys,z<es.size:=λz hz=>List.mem_range.mp (hp.mem_iff.mp hz);exact{
  sub:=λb hb=>by simp at hb;simp[hb]
  frame:=λ_ _ _ st hk=>⟨st.1.at λo e=>hk I (by simp) o e,hk a (by simp) _ st.2.1,st.2.2.at λo e=>hk tp (by simp) o e⟩
  item:=λi s Q E hi st hQ=>by
   have hi':i<ys.length:=by lia
   have hx:es[ys[i]]?=some (es[ys[i]]'(hm i hi')):=by simp[hm i hi']
   refine zpx (p:=ys[i]) (e:=es[ys[i]]'(hm i hi')) st.1 st.2.2 (by simp[hi']) hx st.2.1 hd hf λh' hit' hs'=>?_;refine hQ _ h' s.toks ?_ ⟨hit',hs'.extBut a _ hne st.2.1,st.2.2.extBut hs'.extBut hnt⟩ λb o hb e=>hs'.extBut b o (λh=>hb (by simp[h])) e;rw[List.getElem?_map,hfm ys hall i hi',hx];rfl
  done:=λs Q E st hQ=>zpy hh st.1 st.2.2 (by simp;lia) st.2.1 hd hf λh' he'=>hQ h' s.toks λb o hb e=>he' b o (λh=>hb (by simp[h])) e
  self:=λ_ _ _ _ st hQ=>x6 st.1 hQ }
end
end PySem
namespace SV
open PySem
theorem items_eq{ord:List Value}{n:Nat}(hl:ord.length=n){acc:Array Value}(h:ItemsOf (λi v=>ord[i]?=some v) acc n):acc.toList=ord:=by
 obtain⟨h1,h2⟩:=h;refine List.ext_getElem? λi=>?_
 by_cases c:i<acc.size
 ·have e:acc[i]?=some acc[i]:=by simp[c]
  rw[h2 i _ e];simp[c]
 ·rw[List.getElem?_eq_none (by simp;lia),List.getElem?_eq_none (by lia)]
section
variable {prog:Program}{w:World}{A:Around}{E:Value->Shared->Prop}{s:Shared}{a:Addr}{o:Obj}{es:Array (Int×Value)}{ep:Nat}{t:SetTable}
theorem zh5(hh:A.handled=none)(ho:s.heap.get? a=some o)(hex:o.ExactSet)(hd:o.data=.set es ep t)(hf:t.fits es.size=true)(tb:Tb w t)(hz:es.size<=sizeLine):
  wpAny (model prog w) A (pyIter (.ref a)) (λv s'=>∃(I:Addr) (h':Heap) (d':_) (fp:List Addr) (P:Nat->Value->Prop) (St:Nat->Heap->Prop),v=.ref I/\s' = { s with heap:=h',drawn:=d' }/\(∀b o,s.heap.get? b=some o->h'.get? b=some o)/\s.heap.objs.size<=I
   /\ Walks prog w A I fp [I] es.size P St/\St 0 h'/\(∀b∈fp,b=a\/s.heap.objs.size<=b)/\∀acc,ItemsOf P acc es.size->acc.toList.Perm (es.toList.map (·.2))) E s:=by
 have la:a<s.heap.objs.size:=Heap.lt_size ho;refine zav ho hex hd hf hz (λc=>?_) (λys d' p=>?_)
 ·have hne:a≠s.heap.objs.size:=Nat.ne_of_lt la;have g1:IsSI (s.heap.push (zag (rawInt 0) a es.size ep)) s.heap.objs.size #[rawInt 0,rawInt 0,.ref a,rawInt es.size,rawInt ep]:=⟨_,Heap.get?_push_size _ rfl,rfl,rfl⟩
  have g2:(s.heap.push (zag (rawInt 0) a es.size ep)).get? a=some o:=Heap.get?_push_of_some _ ho;have k:∀b o,s.heap.get? b=some o->(s.heap.push (zag (rawInt 0) a es.size ep)).get? b=some o:=λb o e=>Heap.get?_push_of_some _ e;have hfp:∀b ∈ [s.heap.objs.size,a],b=a\/s.heap.objs.size<=b:=λb hb=>by
   simp at hb;rcases hb with rfl|rfl
   ·exact .inr (Nat.le_refl _)
   ·exact .inl rfl
  rcases c with hT |⟨hT,hp⟩
  ·refine⟨_,_,s.drawn,_,_,_,rfl,rfl,k,Nat.le_refl _,zh4 hh _ hne hd hf hT,⟨g1,g2⟩,hfp,λacc hacc=>?_⟩;have pm:=SV.pick_perm (w.params.setOrder a ep) es;rw[items_eq (by rw[List.length_map,pm.length_eq];simp) hacc];exact pm.map _
  ·refine⟨_,_,s.drawn,_,_,_,rfl,rfl,k,Nat.le_refl _,zgb hh _ hne hd hf tb hT hp,⟨Nat.zero_le _,g1,g2⟩,hfp,λacc hacc=>?_⟩;rw[items_eq (by simp) hacc]
 ·have hne:a≠s.heap.objs.size+1:=Nat.ne_of_lt (Nat.lt_succ_of_lt la)
  have g1:((s.heap.push { cls:=.type "tuple",data:=.seq (ys.map λi:Nat=>rawInt i).toArray }).push (zag (.ref s.heap.objs.size) a es.size ep)).get? (s.heap.objs.size+1)=some (zag (.ref s.heap.objs.size) a es.size ep):=by
   rw[show s.heap.objs.size+1=(s.heap.push { cls:=.type "tuple",data:=.seq (ys.map λi:Nat=>rawInt i).toArray }).objs.size from(Heap.size_push ..).symm];exact Heap.get?_push_size _ rfl
  have k:∀b o,s.heap.get? b=some o->((s.heap.push { cls:=.type "tuple",data:=.seq (ys.map λi:Nat=>rawInt i).toArray }).push (zag (.ref s.heap.objs.size) a es.size ep)).get? b=some o:=λb o e=>Heap.get?_push_of_some _ (Heap.get?_push_of_some _ e);have g3:((s.heap.push { cls:=.type "tuple",data:=.seq (ys.map λi:Nat=>rawInt i).toArray }).push (zag (.ref s.heap.objs.size) a es.size ep)).IsTuple s.heap.objs.size (ys.map λi:Nat=>rawInt i).toArray:=⟨_,Heap.get?_push_of_some _ (Heap.get?_push_size _ rfl),rfl,_,rfl⟩
  refine⟨_,_,d',_,_,_,rfl,rfl,k,Nat.le_succ _,zgc hh _ s.heap.objs.size hne (Nat.ne_of_lt (Nat.lt_succ_self _)) hd hf p,⟨⟨_,g1,rfl,rfl⟩,k _ _ ho,g3⟩,λb hb=>?_,λacc hacc=>?_⟩
  ·simp at hb;rcases hb with rfl|rfl|rfl
   ·exact .inr (Nat.le_succ _)
   ·exact .inl rfl
   ·exact .inr (Nat.le_refl _)
  ·have pm:(ys.filterMap (es[·]?)).Perm es.toList:=by
    have h1:=p.filterMap (es[·]?);have h2:=List.filterMap_getElem?_range_length es.toList;simp only[Array.length_toList,Array.getElem?_toList]at h2;rw[h2]at h1;exact h1
   rw[items_eq (by rw[List.length_map,pm.length_eq];simp) hacc];exact pm.map _
theorem collect_set{Q:List Value->Shared->Prop}(hh:A.handled=none)(ho:s.heap.get? a=some o)(hex:o.ExactSet)(hd:o.data=.set es ep t)(hf:t.fits es.size=true)(tb:Tb w t)(hz:es.size<=sizeLine)
  (hQ:∀(h':Heap) (d':_) (tk:Nat) (vs:List Value),vs.Perm (es.toList.map (·.2))->(∀b o,s.heap.get? b=some o->h'.get? b=some o)->s.heap.objs.size<h'.objs.size->Q vs { s with heap:=h',drawn:=d',toks:=tk }):wpAny (model prog w) A (collect (.ref a)) Q E s:=by
 have la:a<s.heap.objs.size:=Heap.lt_size ho;have hSI:s.heap.objs.size≠a:=Nat.ne_of_gt la;unfold collect;refine wpAny_bind (wpAny_runValue (codeAny_builtin PySem.F.entry_proto_collect ?_));rw[Around.under_plainId PySem.F.plain_proto_collect _];show wpAny _ A.in1 (newList [] >>= λl=>again (.builtin "list.__iadd__" ⟨[l,.ref a],[]⟩)) _ _ s;refine wpAny_bind (wpAny_newObj_type ?_);refine wpAny_pure ⟨plainId_quiet PySem.F.plain_list_iadd _,codeAny_builtin PySem.F.entry_list_iadd ?_⟩;rw[Around.under_plainId PySem.F.plain_list_iadd _];show wpAny _ A.in1 (Builtin.List.listExtendWith (.ref s.heap.objs.size) (.ref a) (.ref s.heap.objs.size)) _ _ _;unfold Builtin.List.listExtendWith;have ho1:(s.heap.push { cls:=.type "list",data:=.seq ([]:List Value).toArray }).get? a=some o:=Heap.get?_push_of_some _ ho;have hS1:(s.heap.push { cls:=.type "list",data:=.seq ([]:List Value).toArray }).get? s.heap.objs.size=some { cls:=.type "list",data:=.seq ([]:List Value).toArray }:=Heap.get?_push_size _ rfl;refine wpAny_bind (wpAny_typeOf (T := "set") ⟨o,ho1,hex.1⟩ ?_);have h1:Builtin.List.listSameRef (.ref s.heap.objs.size) (.ref a)=false:=by simp[Builtin.List.listSameRef,hSI]
 have h2:(Value.type "set" == Value.type "list")=false:=by decide
 have h3:(Value.type "set" == Value.type "tuple")=false:=by decide
 simp only[h1,h2,h3,Bool.or_false,Bool.false_eq_true,if_false];refine wpAny_bind (wpAny_mono (zh5 (A:=A.in1) hh ho1 hex hd hf tb hz) ?_ λ_ _ e=>e);rintro v s1 ⟨I,h',d',fp,P,St,rfl,rfl,k,hI,W,st,hfp,hacc⟩;rw[Heap.size_push]at hI hfp;have hSf:s.heap.objs.size∉fp:=λhm=>by
  rcases hfp _ hm with e|e
  ·exact hSI e
  ·lia
 have hS2:=k _ _ hS1;refine wpAny_bind (wpAny_holding ?_);unfold Builtin.List.listLengthHint;refine wpAny_bind (wpAny_specialOf (T := "set") ⟨o,k _ _ ho1,hex.1⟩ PySem.F.slot_set_len.lookup ?_);generalize hid:("set.__len__" : String)=id0
 wp_delta
 rw[show splitId id0=some ("set", "__len__") from by subst hid;decide +kernel];subst hid;refine wpAny_bind (wpAny_isInstance (T := "set") (b:=true) ⟨o,k _ _ ho1,hex.1⟩ (by rw[isSubtype_type];kernel_rfl) ?_);refine wpAny_ite_split (λhab=>absurd hab (by decide)) (λ_=>?_);refine wpAny_ite_split (λ_=>?_) (λhab=>absurd (by decide +kernel) hab);refine wpAny_bind (wpAny_typeOf (T := "set") ⟨o,k _ _ ho1,hex.1⟩ ?_);refine wpAny_pure ?_;refine wpAny_ite_split (λ_=>?_) (λhab=>absurd (by decide +kernel) hab);refine wpAny_bind (wpAny_rule ?_);refine wpAny_bind ?_;show wpAny _ A.in1 (updateSeq s.heap.objs.size (·.push .none) >>= λ_=>updateSeq s.heap.objs.size (·.pop)) _ _ _;refine wpAny_bind (wpAny_updateSeq hS2 rfl ?_);have hS3:=Heap.get?_update_self (Obj.mapSeq (·.push Value.none)) hS2 rfl;refine wpAny_updateSeq hS3 rfl ?_;have hS4:=Heap.get?_update_self (Obj.mapSeq (·.pop)) hS3 rfl;have oth:∀b o,b≠s.heap.objs.size->h'.get? b=some o->((h'.update s.heap.objs.size (Obj.mapSeq (·.push Value.none))).update s.heap.objs.size (Obj.mapSeq (·.pop))).get? b=some o :=
  λb o hb e=>(Heap.get?_update_other _ _ (Ne.symm hb)).trans ((Heap.get?_update_other _ _ (Ne.symm hb)).trans e)
 refine wpAny_pure ⟨plainId_quiet PySem.F.plain_extend_loop _,codeAny_extend_loopS W.toS hz _ hSf _ es.size 0 _ _ _ rfl (Nat.zero_le _) (W.frame 0 h' _ st λb hb o e=>oth b o (λh=>hSf (h ▸ hb)) e) hS4 (ItemsOf.nil P) λs' acc' c' hm hS' ha=>?_⟩;show wpAny _ A (load s.heap.objs.size >>= _) _ _ s';refine wpAny_bind (wpAny_load hS' ?_);rw[Moved.eq_with hm];refine wpAny_pure (hQ _ _ _ _ (hacc _ ha) (λb o e=>?_) (Heap.lt_size hS'));have lb:b<s.heap.objs.size:=Heap.lt_size e;refine hm.heap b o (λhmem=>?_) (oth b o (Nat.ne_of_lt lb) (k b o (Heap.get?_push_of_some _ e)));rcases List.mem_cons.mp hmem with e'|hmem
 ·exact absurd e' (Nat.ne_of_lt lb)
 ·have e2:=List.mem_singleton.mp hmem;rw[e2]at lb;exact absurd (Nat.lt_of_lt_of_le (Nat.lt_of_lt_of_le lb (Nat.le_succ _)) hI) (Nat.lt_irrefl _)
end
end SV
namespace L2
open PySem PySem.Spec PyProof.Rows SQ
section
variable {X:Cx}{a:Expr}{p pos p2 pos2:Pos}
theorem Inv.dr{pins:List (Addr×Obj)}{σ:List (Option V)}{H:Hp}{s:Shared}(I:Inv X pins σ H s)(d:Drawn):Inv X pins σ H { s with drawn:=d }:=⟨I.ok,I.os,I.bare,I.base,I.loc,I.cell,I.free,I.freeC,I.pin,I.hok,I.len⟩
end
end L2
namespace L2
open PySem PySem.Spec PyProof.Rows
section
variable {X:Cx}{e:Expr}{pos p:Pos}
def insL{α:Type}(k:Int)(y:α)(xs:List α):List α:=xs.take k.toNat++y::xs.drop k.toNat
end
def zs9:Option W->Option W
 |some (.own _)=>none
 |some (.tmp _)=>none
 |w=>w
def wg(is:List Nat)(n:Nat):DSt->DSt
 |[]=>[]
 |w::ws=>(if n∈is then none else zs9 w)::wg is (n+1) ws
theorem zjp(is:List Nat):∀(σ:DSt) (n j:Nat),n+j∈is->j<σ.length->(wg is n σ)[j]?=some none
 |[],_,_,_,h=>absurd h (Nat.not_lt_zero _)
 |w::ws,n,0,h,_=>by
  rw[Nat.add_zero]at h;simp[wg,h]
 |w::ws,n,j+1,h,hl=>by
  rw[wg,List.getElem?_cons_succ];exact zjp is ws (n+1) j (by rw[show n+1+j=n+(j+1) by lia];exact h) (by simpa using hl)
section
variable {K:PySem.W.Frag}{H₀ H H':Hp}
theorem Slots.dry(is:List Nat)(p:Pers H H'){σD:DSt}{σ:St}{fp:List Addr}(h:Slots K H₀ H σD σ fp):∀n,Slots K H₀ H' (wg is n σD) σ []:=by
 induction h with
 |nil=>exact λn=>.nil
 |none t ih=>
  intro n;unfold wg
  split <;> exact .none (ih _)
 |val r t ih=>
  intro n;unfold wg
  split
  ·exact .none (ih _)
  ·exact .val (r.mono p) (ih _)
 |vw r t ih=>
  intro n;unfold wg
  split
  ·exact .none (ih _)
  ·exact .vw r (ih _)
 |vd r t ih=>
  intro n;unfold wg
  split
  ·exact .none (ih _)
  ·exact .vd r (ih _)
 |exc r t ih=>
  intro n;unfold wg
  split
  ·exact .none (ih _)
  ·exact .exc r (ih _)
 |scr r t ih=>
  intro n;unfold wg
  split
  ·exact .none (ih _)
  ·exact .scr r (ih _)
 |pen r t ih=>
  intro n;unfold wg
  split
  ·exact .none (ih _)
  ·exact .pen (p _ _ r rfl) (ih _)
 |tmp r t ih=>
  intro n;unfold wg
  split <;> exact .none (ih _)
 |own r t ih=>
  intro n;unfold wg
  split <;> exact .none (ih _)
theorem DOk.dry(is:List Nat)(p:Pers H H')(sm:Same H₀ H'){σD:DSt}{σ:St}(h:DOk K H₀ H σD σ):DOk K H₀ H' (wg is 0 σD) σ:=by
 obtain⟨s,fp,sl,nd,hf⟩:=h;exact⟨sm,[],sl.dry is p 0,List.nodup_nil,λa ha=>by cases ha⟩
end
def zna:Ret->Mx
 |.val d=>.v d
 |.new xs=>.l xs
theorem RepRs.mx{K:PySem.W.Frag}{H H':Hp}{rs:List Ret}{vs:List V}(h:RepRs K H H' rs vs):∃bs,MxR K H' (rs.map zna) vs bs/\bs.Nodup/\∀b∈bs,H b=none:=by
 induction h with
 |nil s=>exact⟨[],trivial,List.nodup_nil,λb hb=>by cases hb⟩
 |val s r t ih=>
  obtain⟨bs,m,nd,fr⟩:=ih;exact⟨bs,⟨r.same t.same,m⟩,nd,λb hb=>s.free (fr b hb)⟩
 |@new H H1 H' xs a ws rs vs s n e r t ih=>
  obtain⟨bs,m,nd,fr⟩:=ih;refine⟨a::bs,⟨rfl,⟨ws,t.same _ _ e,r.same t.same⟩,m⟩,List.nodup_cons.mpr ⟨λz=>?_,nd⟩,λb hb=>?_⟩
  ·rw[fr a z]at e;cases e
  ·rcases List.mem_cons.mp hb with rfl|hb
   ·exact n
   ·exact s.free (fr b hb)
def zh6(i:Nat)(t:DTM):DTS:=λDn σ=>t σ λrs=>rs.length<=sizeLine/\Dn.nx (σ.set i (some (.own (.mix (rs.map zna)))))
section
variable {X:Cx}{e:Expr}{es:List Expr}{pos:Pos}{i j:Nat}{sp:zat}{t:k6}
theorem znb{tm:DTM}{i:Nat}{x:Str}{pos' p2:Pos}(hN:X.N.Nodup)(hi:X.N[i]?=some x)(hx:Loc X.env.scope x)(h:DM X es tm)
  (hs:swapsWith (.List es p2) (some (.Name x pos')) pos.line X.env=pure false:=by rfl) (hf:X.fn x=true\/X.env.scope.names.lookup x=some .local:=by first|exact .inl rfl|exact .inr rfl) :
  DS X (.Assign [.Name x pos'] (.List es p2) pos) (zh6 i tm) :=
 DS.of (zam hN hi hx (zhb h.pa) hs hf) λσ H H₀ σD Dn ok q=>⟨H₀,σD,_,ok,q,λvs H1 rs r1 q1=>by
  refine⟨by rw[<-r1.length];exact q1.1,λp hp=>?_⟩;obtain⟨bs,m,nd,fr⟩:=r1.mx;have sn:=z5 hp (.lst vs);have sm:Same H (upd H1 p (.lst vs)):=r1.same.trans sn;refine⟨_,DOk.setF ok sm (o:=.mix (rs.map zna)) (v:=.ref p) (f:=p::bs) ?_ ?_ ?_ i,sm.pers,q1.2⟩
  ·intro b hb;rcases List.mem_cons.mp hb with rfl|hb
   ·exact r1.same.free hp
   ·exact fr b hb
  ·refine List.nodup_cons.mpr ⟨λz=>?_,nd⟩;obtain⟨vs0,e0⟩:=m.live p z;rw[hp]at e0
   cases e0
  ·exact⟨p,vs,bs,rfl,rfl,zq,m.keep sn.pers λc hc u hu=>sn _ _ hu⟩⟩
def zjq(j i:Nat)(sp:zat)(t:k6):DTS:=λDn σ=>match σ[j]? with
 |some (some (.own (.lst _)))=>zcb i sp t (λd σ'=>match σ'[j]? with
  |some (some (.own (.lst xs)))=>xs.length<sizeLine/\Dn.nx (clr (σ'.set j (some (.own (.lst (xs ++ [d]))))))
  |_=>False) σ
 |_=>False
theorem zpz(j:Nat){x:Str}{p1 apos cpos:Pos}(P:PE X e (zau X.K i sp t))(hN:X.N[j]?=some x:=by rfl)(hv:Vis X.env.scope x:=by first|exact Or.inl rfl|exact Or.inr (Or.inl rfl)|exact Or.inr (Or.inr rfl))(hd:(x ==("__debug__" : Str))=false:=by decide)
  (hcd:(x ==("__classdict__" : Str))=false:=by decide)
  (hbase:attributeBase (.Name x p1) "append" X.env (eval (.Name x p1) X.env)=eval (.Name x p1) X.env:=by rfl)
  (hfew:((backTo cpos (starEach (e :: []) X.env)).all (λx=>!x.1) && (backToKw cpos (keywordEach [] X.env)).all (λx=>x.1.isSome)
   && decide ((e :: []).length+([]:List Keyword).length+(if ([]:List Keyword).isEmpty then 0 else 1)<30))=true:=by rfl)
  (hline:(apos.endLine == cpos.line)=true:=by rfl) (hst:starEach (e :: []) X.env=(false,eval e X.env)::starEach [] X.env:=by rfl) (hplain:(backTo cpos (starEach [] X.env)).any (·.1)=false:=by rfl)
  (hs:swapsWith (.Call (.Attribute (.Name x p1) "append" apos) [e] [] cpos) none pos.line X.env=pure false:=by rfl):DS X (.Expr (.Call (.Attribute (.Name x p1) "append" apos) [e] [] cpos) pos) (zjq j i sp t) :=
 DS.of (zd6 (zlu PySem.F.plainAttrs_list PySem.F.slot_list_append PySem.F.type_list_append qy (y4 (i:=j) hN hv hd hcd) (yw P x3 hst) hbase hfew hline hst hplain) hs) λσ H H₀ σD Dn ok q=>by
  unfold zjq at q
  split at q
  ·next xs eo=>
   obtain⟨a,vs,e1,e2,r,n⟩:=ok.ownL eo;refine⟨.ref a,e1,.inl ⟨rfl,vs,SqL.of e2⟩,zh1 ok q λv H' d σD' ok' pr rp qd=>?_⟩
   split at qd
   ·next ys ey=>
    obtain⟨a',ws,e1',e2',r',n'⟩:=ok'.ownL ey;rw[e1]at e1'
    cases e1';exact⟨a,ws,v,rfl,rfl,e2',by rw[<-r'.length];exact qd.1,_,ok'.write ey e1 e2' (r'.append (.cons rp .nil)),pr.trans (y9 e2' rfl),qd.2⟩
   ·exact qd.elim
  ·exact q.elim
end
def zp0:Option W->Option W
 |some (.val d)=>some (.val d)
 |_=>none
def startV(k:Nat)(js:List Nat)(σ:DSt):DSt:=List.replicate k none++js.map λj=>zp0 (σ[j]?).join
def lcG(g:DTG)(tt:DTT)(p:Nat)(sp:zat)(t:k6)(σ0:DSt):List D->List D->O->(List D->O->Prop)->Prop
 |[],acc,o,Q=>Q acc o
 |d::ds,acc,o,Q=>g d (σ0.set p (some (.own o))) λσ2=>tt σ2 λb=>
  if b=true then σ2[p]?=some (some (.own o))/\t σ2 λwp wq=>wp.all W.plain=true/\wq.all W.plain=true/\sp wp o.bare wq λy o'=>lcG g tt p sp t σ0 ds (acc ++ [y]) (o.with o') Q
  else lcG g tt p sp t σ0 ds acc o Q
theorem znc{g:DTG}{tt:DTT}{p:Nat}{sp:zat}{t:k6}{σ0:DSt}{Q:List D->O->Prop}(Iv:List D->List D->O->Prop)
  (hs:∀d ds acc o (N:List D->O->Prop),Iv (d::ds) acc o->(∀acc' o',Iv ds acc' o'->N acc' o')->g d (σ0.set p (some (.own o))) λσ2=>tt σ2 λb=>
   if b=true then σ2[p]?=some (some (.own o))/\t σ2 λwp wq=>wp.all W.plain=true/\wq.all W.plain=true/\sp wp o.bare wq λy o'=>N (acc ++ [y]) (o.with o') else N acc o)
  (hd:∀acc o,Iv [] acc o->Q acc o):∀{ds acc:List D}{o:O},Iv ds acc o->lcG g tt p sp t σ0 ds acc o Q
 |[],acc,o,h=>hd acc o h
 |d::ds,acc,o,h=>hs d ds acc o (λacc' o'=>lcG g tt p sp t σ0 ds acc' o' Q) h λacc' o' h'=>znc Iv hs hd h'
section
variable {K:PySem.W.Frag}{H₀ H Hb H':Hp}{σD:DSt}{σ:St}
theorem DOk.startV(h:DOk K H₀ H σD σ)(p:Pers H H')(k:Nat)(js:List Nat):Slots K Hb H' (L2.startV k js σD) (z9 k js σ) []:=by
 have two:∀js:List Nat,Slots K Hb H' (js.map λj=>zp0 (σD[j]?).join) (js.map λj=>(σ[j]?).join) []:=λjs=>by
  induction js with
  |nil=>exact .nil
  |cons j js ih=>
   rw[List.map_cons,List.map_cons]
   cases e:σD[j]? with
   |none=>exact .none ih
   |some w=>
    cases w with
    |none=>exact .none ih
    |some w=>
     cases w with
     |val d=>
      obtain⟨v,e1,r⟩:=h.val e;rw[e1];exact .val (r.mono p) ih
     |_=>exact .none ih
 unfold L2.startV z9
 induction k with
 |zero=>exact two js
 |succ k ih=>exact .none ih
theorem zta{p:Nat}{o:O}(h:p<σD.length):(clr (σD.set p (some (.own o))))[p]?=some (some (.own o)):=by
 unfold clr;rw[List.getElem?_map,List.getElem?_set_self h];rfl
theorem zcc{k p i:Nat}{js:List Nat}(hp:js[p]?=some i):(z9 k js σ)[k+p]?=some (σ[i]?).join:=by
 unfold z9;rw[List.getElem?_append_right (by simp),List.length_replicate,Nat.add_sub_cancel_left,List.getElem?_map,hp];rfl
theorem DOk.blockG(h:DOk K H₀ H σD σ){k p i:Nat}{js:List Nat}{v:V}{o:O}{f:List Addr}{σ':St}(pr:Pers H H')(hp:js[p]?=some i)(ev:σ[i]?=some (some v))(hl:σ'.length=(z9 k js σ).length)(fr:∀j,k<=j->σ'[j]?=(z9 k js σ)[j]?)
  (r:RepO K H' o v f) (nf:f.Nodup):DOk K (zad f H') H' ((L2.startV k js σD).set (k+p) (some (.own o))) σ':=by
 have s1:Slots K (zad f H') H' (L2.startV k js σD) σ' []:=(h.startV pr k js).keepN hl λj=>by
  by_cases hj:j<k
  ·left;unfold L2.startV;rw[List.getElem?_append_left (by simpa using hj),List.getElem?_replicate,if_pos hj]
  ·right;exact fr j (by (clear hl;omega))
 have hlt:p<js.length:=(List.getElem?_eq_some_iff.mp hp).1;obtain⟨g,g',s2,sb⟩:=s1.set (f:=f) (w:=some (.own o)) (v:=some v) (λt=>.own r t) (k+p) (by unfold L2.startV;rw[List.length_append,List.length_replicate,List.length_map];(clear hl;lia));have e0:=List.sublist_nil.mp sb;obtain⟨rfl,rfl⟩:=List.append_eq_nil_iff.mp e0;rw[List.nil_append,List.append_nil]at s2;have e1:σ'[k+p]?=some (some v):=by rw[fr _ (by (clear hl hlt;lia)),zcc hp,ev];rfl
 have e2:σ'.set (k+p) (some v)=σ':=by
  obtain⟨h1,h2⟩:=List.getElem?_eq_some_iff.mp e1;rw[<-h2];exact List.set_getElem_self h1
 rw[e2]at s2;exact⟨zas,f,s2,nf,λa ha=>ku ha⟩
end
section
variable {X:Cx}{elt tg iter:Expr}{ifs:List Expr}{scope:Scope}{pos:Pos}{cl:List (Str×Addr)}{N' capt:List Str}{k:Nat}{js is:List Nat}{ti:DTF}{g:DTG}{tt:DTT}{sp:zat}{t:k6}
theorem zkz{p i:Nat}{σ:St}{σD:DSt}{H₀ H1:Hp}{J:It}{ds:List D}{QD:List D->O->Prop}{Dd:Addr}{o0:O}(ok:DOk X.K H₀ H1 σD σ)(eo:σD[i]?=some (some (.own o0)))(it:ItOk X.K Pers J H1 ds)(hz:ds.length<=sizeLine)(his:∀j∈is,j<k)(hp:js[p]?=some i)(hn:H1 Dd=none)
  (q:lcG g tt (k+p) sp t (startV k js σD) ds [] o0 QD) :
  zbn J Dd (cnG X.K is g) (cnT X.K tt) (zau X.K (k+p) sp t) (z9 k js σ) H1 (λv H'=>∃vs xs o',v=.ref Dd/\H' Dd=some (.lst vs)/\Reps X.K H' xs vs/\QD xs o'/\DOk X.K H₀ (zad [Dd] H') (clr (σD.set i (some (.own o')))) σ/\Pers H1 H'):=by
 obtain⟨v,f,ev,rO,nf,fr0,put⟩:=ok.focus eo;have sn:=z5 hn (.lst []);have nD0:Dd∉f:=λz=>by
  obtain⟨w,e1,_⟩:=rO.live Dd z;rw[hn]at e1
  cases e1
 refine⟨λi m σ' H'=>m=ds.length-i/\i<=ds.length/\σ'.length=(z9 k js σ).length/\(∀j,k<=j->σ'[j]?=(z9 k js σ)[j]?)/\Pers H1 H'/\(∀a u,a∉f->H1 a=some u->H' a=some u) /\
   ∃acc vs o' f',H' Dd=some (.lst vs)/\Reps X.K H' acc vs/\acc.length<=i/\RepO X.K H' o' v f'/\f'.Nodup/\(∀a∈f',a∈f\/H1 a=none)/\Dd∉f'/\lcG g tt (k+p) sp t (startV k js σD) (ds.drop i) acc o' QD,
  ⟨ds.length,rfl,Nat.zero_le _,rfl,λ_ _=>rfl,sn.pers,λa u _ h=>sn a u h,[],[],o0,f,zq,.nil,Nat.le_refl _,rO.keep sn.pers λa _ u h=>sn a u h,nf,λa ha=>.inl ha,nD0,q⟩,?_⟩
 intro i' m σ' H' zz;refine gg λG zk=>?_;obtain⟨zem,hi,hl,fr,pr,kp,acc,vs,o',f',eD,ra,la,rf,nf',ff,nDf,q1⟩:=zz;refine zk ?_;clear zk;subst zem
 by_cases hlt:i' < ds.length
 ·have e:ds[i']?=some ds[i']:=by simp[hlt]
  obtain⟨go,yl⟩:=it.go H' i' ds[i'] pr e;refine .inr ⟨go,λx H2 y=>?_⟩;obtain⟨s2,r2⟩:=yl x H2 y;rw[List.drop_eq_getElem_cons hlt]at q1;have ok1:=ok.blockG (H':=H2) (pr.trans s2.pers) hp ev hl fr (rf.keep s2.pers λa _ u h=>s2 a u h) nf';refine⟨zad f' H2,_,ds[i'],_,ok1,r2,q1,λσ2 σD2 l2 ok2 f2 q2=>?_⟩;have fr2:∀j,k<=j->σ2[j]?=(z9 k js σ)[j]?:=λj hj=>by rw[f2 j (λz=>absurd (his j z) (by lia)),fr j hj]
  refine⟨zad f' H2,σD2,_,ok2,q2,λb H4 s4 q4=>?_⟩;have s24:=s2.trans s4
  cases b with
  |true=>
   show ite _ _ _;rw[if_pos rfl]at q4 ⊢;obtain⟨q4,q5⟩:=q4;refine⟨zad f' H2,σD2,o',_,ok2.after s4,q4,q5,λy H5 dy o5 ok5 p5 r5 q5=>?_⟩;obtain⟨v5,f5,ev5,rO5,nf5,fr5,_⟩:=ok5.focus (zta (List.getElem?_eq_some_iff.mp q4).1);rw[fr2 _ (by (clear hz hl la l2;lia)),zcc hp,ev]at ev5
   cases ev5;have sm5:∀a u,a∉f'->H2 a=some u->H5 a=some u:=λa u ha hu=>ok5.same a u (by rw[x9 ha];exact hu);have eD5:H5 Dd=some (.lst vs):=sm5 _ _ nDf (s2 _ _ eD);have pr5:Pers H' H5:=s24.pers.trans p5;have ra5:=ra.mono pr5;have nD5:Dd∉f5:=λz=>by
    have:=fr5 Dd z;rw[x9 nDf,s2 _ _ eD]at this
    cases this
   have pu:Pers H5 (upd H5 Dd (.lst (vs ++ [y]))):=y9 eD5 rfl;refine⟨vs,eD5,by rw[<-ra5.length];lia,ds.length-(i'+1),by omega,rfl,hlt,l2.trans hl,fr2,(pr.trans pr5).trans pu,λa u ha hu=>?_,acc ++ [dy],vs ++ [y],o'.with o5,f5,zq,(ra5.append (.cons r5 .nil)).mono pu,by rw[List.length_append,List.length_singleton];lia,
    rO5.keep pu λa ha u hu=>by rw[zv (λz=>nD5 (by rw[<-z];exact ha))];exact hu,nf5,λa ha=>?_,nD5,q5⟩
   ·rw[zv (λz=>by rw[z,hn]at hu;cases hu)];refine sm5 a u (λz=>?_) (s2 _ _ (kp a u ha hu));rcases ff a z with w|w
    ·exact ha w
    ·rw[hu]at w;cases w
   ·by_cases z:a∈f'
    ·exact ff a z
    ·have h2:=fr5 a ha;rw[x9 z]at h2;have h3:=s2.free h2
     by_cases y:a∈f
     ·exact .inl y
     ·right
      cases h4:H1 a with
      |none=>rfl
      |some u=>rw[kp a u y h4]at h3;cases h3
  |false=>
   show ite _ _ _;rw[if_neg Bool.false_ne_true]at q4 ⊢;exact⟨ds.length-(i'+1),by omega,rfl,hlt,l2.trans hl,fr2,pr.trans s24.pers,λa u ha hu=>s24 _ _ (kp a u ha hu),acc,vs,o',f',s24 _ _ eD,ra.same s24,by lia,rf.keep s24.pers λa _ u h=>s24 a u h,nf',ff,nDf,q4⟩
 ·have e:i'=ds.length:=by lia
  subst e;rw[List.drop_length]at q1;have ph:Pers H' (zad [Dd] H'):=λa u ha hp=>by
   rw[x9]
   ·exact ha
   ·intro z;rw[List.mem_singleton.mp z,eD]at ha
    cases ha
    cases hp
  have off:∀a,a≠Dd->zad [Dd] H' a=H' a:=λa ha=>x9 λz=>ha (List.mem_singleton.mp z);refine .inl ⟨it.stop H' pr,vs,acc,o',rfl,eD,ra,q1,(put (zad [Dd] H') o' f' (λa u ha hu=>?_) nf' ff (rf.keep ph λa ha u hu=>?_)).1,pr⟩
  ·rw[off a λz=>by rw[z,hn]at hu;cases hu];exact kp a u ha hu
  ·rw[off a λz=>nDf (by rw[<-z];exact ha)];exact hu
def zbv(j i k:Nat)(js:List Nat)(p:Nat)(ti:DTF)(g:DTG)(tt:DTT)(sp:zat)(t:k6):DTS:=λDn σ=>match σ[i]? with
 |some (some (.own o))=>ti σ λds=>ds.length<=sizeLine/\lcG g tt (k+p) sp t (startV k js σ) ds [] o λys o'=>Dn.nx ((clr (σ.set i (some (.own o')))).set j (some (.own (.lst ys))))
 |_=>False
theorem zk0(i p:Nat){j:Nat}{x:Str}{pos' spos:Pos}(hN:X.N.Nodup)(hi':X.N[j]?=some x)(hx:Loc X.env.scope x)(hc:X.calm=true)(L:zc1 X scope cl N' capt k js)
  (hi:DI X tg iter ti) (hg:∀C fp s2 H2,DG (yd X N' scope cl C fp s2 H2) tg is g) (ht:∀C fp s2 H2,DTs (yd X N' scope cl C fp s2 H2) ifs tt) (he:∀C fp s2 H2,PE (yd X N' scope cl C fp s2 H2) elt (zau X.K (k+p) sp t))
  (hp:js[p]?=some i:=by rfl) (his:∀j∈is,j<k:=by decide) (hsw:swapsWith (.ListComp elt [⟨tg,iter,ifs,0⟩] scope pos) (some (.Name x pos')) spos.line X.env=pure true:=by rfl) (hs:∀x,foldedSetIterable iter X.env x=pure x:=by intro _;rfl) (hf:X.fn x=true\/X.env.scope.names.lookup x=some .local:=by first|exact .inl rfl|exact .inr rfl|assumption) :
  DS X (.Assign [.Name x pos'] (.ListComp elt [⟨tg,iter,ifs,0⟩] scope pos) spos) (zbv j i k js p ti g tt sp t) :=
 DS.of (zfm (wi:=cnI X.K Pers ti) (g:=cnG X.K is g) (tt:=cnT X.K tt) (te:=zau X.K (k+p) sp t) hN hi' hx hc L hi.pi (λC fp s2 H2=>(hg C fp s2 H2).pg) (λC fp s2 H2=>(ht C fp s2 H2).pts) he hsw hs hf) λσ H H₀ σD Dn ok q=>by
  unfold zbv at q
  split at q
  ·next o eo=>
   refine⟨H₀,σD,_,ok,q,λJ H1 ds s1 it q1 Dd hn=>?_⟩;obtain⟨W,w0,turn⟩:=zkz (ok.after s1) eo it q1.1 his hp hn q1.2;refine⟨W,w0,λi m σ' H' w=>?_⟩;rcases turn i m σ' H' w with⟨st,vs,xs,o',_,eD,r,qd,okh,pr⟩|h
   ·exact .inl ⟨st,_,DOk.setO okh zas (ku (List.mem_singleton.mpr rfl)) eD r j,s1.pers.trans pr,qd⟩
   ·exact .inr h
  ·exact q.elim
end
end L2
namespace SQ
open PySem PyProof.Rows
set_option autoImplicit false
open Classical in
section
variable {prog:Program}{w:World}{A:Around}{E:Value->Shared->Prop}{s:Shared}
theorem items_int{vs:List Value}{ns:List Int}(h:IntsAre vs ns):ItemsAre (intKind prog w) ns vs:=by
 induction h with
 |nil=>exact .nil
 |cons n t h ih=>exact .cons (by simp[intKind,Value.isInt]) ih
end
end SQ
namespace L2
open PySem PySem.Spec PyProof.Rows
section
open PySem.Builtin PySem.Builtin.Str
theorem cl1(m:Nat)(k:Tok):countLimit "str.replace" (some (.int 1 k)) m=pure 1:=by
 unfold countLimit;show(asSsize "str.replace" (.int 1 k) >>= _)=_;have:asSsize "str.replace" (.int 1 k)=pure 1:=by
  unfold asSsize;have:asIndex (.int 1 k)=pure 1:=rfl;rw[this];rfl
 rw[this];rfl
end
end L2
namespace PySem
open Sem (wp)
def KyAt(h:Heap)(a:Addr)(us:List Value)(ep:Nat):Prop:=∃o es,h.get? a=some o/\o.ExactDict/\o.data=.dict es ep/\es.toList.map (·.key)=us
theorem KyAt.typeIs{s:Shared}{a us ep}(x:KyAt s.heap a us ep):s.TypeIs (.ref a) "dict" := let ⟨o,_,ho,hc,_⟩:=x;⟨o,ho,hc.1⟩
section
variable {prog:Program}{w:World}{A:Around}{E:Value->Shared->Prop}{s:Shared}
theorem jl{d:Addr}{kvs:List Value}{ep:Nat}{Q:Value->Shared->Prop}(hd:(d == sysModules)=false)(hm:KyAt s.heap d kvs ep)
  (hQ:Q (.ref s.heap.objs.size) { s with heap:=s.heap.push { cls:=.type "dict_keyiterator",data:=.fields #[.ref d,.int 0 0,.int kvs.length 0,.int ep 0] } }) :
  wpAny (model prog w) A (pyIter (.ref d)) Q E s:=by
 obtain⟨o,es,ho,hc,hdat,hp⟩:=id hm;have hT:s.TypeIs (.ref d) "dict" := hm.typeIs;refine wpAny_pyIter_slot hT F.slot_dict_iter (wpAny_call_entry F.slot_dict_iter hT F.entry_dict_iter ?_ (F.args_dict_iter_1 _));unfold Builtin.«dict.__iter__»;refine wpAny_bind ?_;unfold Builtin.Dict.dictSlotNone;refine wpAny_bind (wpAny_notOrdered_dict hT ?_);show wpAny _ _ (pure (Value.ref d)) _ _ s;refine wpAny_pure ?_;show wpAny _ _ (Builtin.Dict.showsAll d >>= _) _ _ s;unfold Builtin.Dict.showsAll;rw[if_neg (by rw[hd];exact Bool.false_ne_true)];refine wpAny_bind (wpAny_pure ?_);refine wpAny_bind (wpAny_dictEntries ho hdat ?_);refine wpAny_bind (wpAny_dictEpoch ho hdat ?_);have hsz:es.size=kvs.length:=by rw[<-hp];simp
 refine wpAny_bind (wpAny_newObj_type (wpAny_pure ⟨_,rfl, "dict_keyiterator",_,⟨_,Heap.get?_push_size _ rfl,rfl⟩,F.slot_dict_keyiterator_next.lookup,?_⟩));simpa[rawInt,hsz]using hQ
theorem w6{it d:Addr}{i ep:Nat}{kvs:List Value}{k:Value}{Q:Option Value->Shared->Prop}(hit:s.heap.IsKeyIter it d i kvs.length ep)
  (hm:KyAt s.heap d kvs ep) (hx:kvs[i]?=some k)
  (hQ:∀h',h'.IsKeyIter it d (i+1) kvs.length ep->Heap.SameBut it s.heap h'->Q (some k) { s with heap:=h' }) :
  wpAny (model prog w) A (pyNext (.ref it)) Q E s:=by
 obtain⟨o,ho,hc,hd⟩:=id hit;obtain⟨od,es,hod,hcd,hdd,hp⟩:=id hm;unfold pyNext;refine wpAny_bind (wpAny_attempt (wpAny_callSpecial?_slot (name:=Str.ofString "__next__") hit.typeIs F.slot_dict_keyiterator_next
  (wpAny_call_entry F.slot_dict_keyiterator_next hit.typeIs F.entry_dict_keyiterator_next ?_ (F.args_dict_keyiterator_next_1 _))))
 refine wpAny_bind (wpAny_pure ?_);refine wpAny_bind ?_;refine wpAny_bind ?_
 first|refine wpAny_bind (wpAny_typeNameOfWhole_keyiter hit.typeIs (wpAny_pure ?_))|refine wpAny_bind (wpAny_typeNameOf_keyiter hit.typeIs (wpAny_pure ?_))
 refine wpAny_bind (wpAny_fieldsOf ho hd ?_);have hown:Builtin.Dict_items.ownsTuple "dict_keyiterator" = false:=by decide
 simp only[hown,Bool.false_eq_true,if_false];show wpAny _ _ (if (Value.ref d == Value.none)=true then _ else _) _ _ s;rw[if_neg (show ¬ ((Value.ref d == Value.none)=true) from Bool.false_ne_true)];refine wpAny_bind (wpAny_pure ?_);refine wpAny_bind (wpAny_dictEntries hod hdd ?_);have hsz:es.size=kvs.length:=by rw[<-hp];simp
 rw[if_neg (by rw[hsz];simp)];refine wpAny_bind (wpAny_pure ?_);refine wpAny_bind (wpAny_dictEpoch hod hdd ?_);rw[if_neg (by simp)];refine wpAny_pure ?_;have hlt:i<kvs.length:=by
  rcases Nat.lt_or_ge i kvs.length with h|h
  ·exact h
  ·simp[List.getElem?_eq_none h]at hx
 have hlt':i<es.size:=by rw[hsz];exact hlt
 have hkey:es[i].key=k:=by
  have h1:=hx;rw[<-hp,List.getElem?_map]at h1;simpa[hlt']using h1
 simp only[show ¬ ((i:Int)<0) from by lia,if_false,Int.toNat_natCast,Array.getElem?_eq_getElem hlt'];refine wpAny_bind ?_
 first|refine wpAny_bind (wpAny_typeNameOfWhole_keyiter hit.typeIs (wpAny_pure ?_))|refine wpAny_bind (wpAny_typeNameOf_keyiter hit.typeIs (wpAny_pure ?_))
 refine wpAny_bind (wpAny_isOneOf_keyiter hit.typeIs ?_);show wpAny _ _ (setField (.ref it) 1 (rawInt ((i:Int)+1)) >>= _) _ _ s;refine wpAny_bind (wpAny_setField ho hd (by simp) ?_);have hit':(s.heap.update it (Obj.mapFields (·.setIfInBounds 1 (rawInt ((i:Int)+1))))).IsKeyIter it d (i+1) kvs.length ep :=
  ⟨_,Heap.get?_update_self _ ho (Obj.isFreed_of_fields (Obj.data_mapFields hd _)),(Obj.cls_mapFields ..).trans hc,by rw[Obj.data_mapFields hd];simp[rawInt]⟩
 refine wpAny_bind (wpAny_holding ?_);refine wpAny_bind (wpAny_isOneOf_keyiter (s:={ s with heap:=s.heap.update it (Obj.mapFields (·.setIfInBounds 1 (rawInt ((i:Int)+1)))) }) hit'.typeIs ?_);show wpAny _ _ (pure es[i].key) _ _ _;rw[hkey];exact wpAny_pure (wpAny_pure ⟨_,rfl,wpAny_pure (hQ _ hit' (Heap.SameBut.update ..))⟩)
theorem ve{it d:Addr}{i ep:Nat}{kvs:List Value}{Q:Option Value->Shared->Prop}(hh:A.handled=none)(hit:s.heap.IsKeyIter it d i kvs.length ep)
  (hm:KyAt s.heap d kvs ep) (hx:kvs[i]?=none)
  (hQ:∀h',Heap.ExtBut it s.heap h'->Q none { s with heap:=h' }):wpAny (model prog w) A (pyNext (.ref it)) Q E s:=by
 obtain⟨o,ho,hc,hd⟩:=id hit;obtain⟨od,es,hod,hcd,hdd,hp⟩:=id hm;unfold pyNext;refine wpAny_bind (wpAny_attempt (wpAny_callSpecial?_slot (name:=Str.ofString "__next__") hit.typeIs F.slot_dict_keyiterator_next
  (wpAny_call_entry F.slot_dict_keyiterator_next hit.typeIs F.entry_dict_keyiterator_next ?_ (F.args_dict_keyiterator_next_1 _))))
 refine wpAny_bind (wpAny_pure ?_);refine wpAny_bind ?_;refine wpAny_bind ?_
 first|refine wpAny_bind (wpAny_typeNameOfWhole_keyiter hit.typeIs (wpAny_pure ?_))|refine wpAny_bind (wpAny_typeNameOf_keyiter hit.typeIs (wpAny_pure ?_))
 refine wpAny_bind (wpAny_fieldsOf ho hd ?_);have hown:Builtin.Dict_items.ownsTuple "dict_keyiterator" = false:=by decide
 simp only[hown,Bool.false_eq_true,if_false];show wpAny _ _ (if (Value.ref d == Value.none)=true then _ else _) _ _ s;rw[if_neg (show ¬ ((Value.ref d == Value.none)=true) from Bool.false_ne_true)];refine wpAny_bind (wpAny_pure ?_);refine wpAny_bind (wpAny_dictEntries hod hdd ?_);have hsz:es.size=kvs.length:=by rw[<-hp];simp
 rw[if_neg (by rw[hsz];simp)];refine wpAny_bind (wpAny_pure ?_);refine wpAny_bind (wpAny_dictEpoch hod hdd ?_);rw[if_neg (by simp)];refine wpAny_pure ?_;have hge:es.size<=i:=by rw[hsz];simpa using hx
 simp only[show ¬ ((i:Int)<0) from by lia,if_false,Int.toNat_natCast,Array.getElem?_eq_none hge];refine wpAny_bind ?_
 first|refine wpAny_bind (wpAny_typeNameOfWhole_keyiter hit.typeIs (wpAny_pure ?_))|refine wpAny_bind (wpAny_typeNameOf_keyiter hit.typeIs (wpAny_pure ?_))
 show wpAny _ _ (setField (.ref it) 0 .none >>= _) _ _ s;refine wpAny_bind (wpAny_setField ho hd (by simp) ?_);show wpAny _ _ (newExc (.type "StopIteration") [] >>= _) _ _ _;refine wpAny_bind ?_;simp only[newExc,newTuple];refine wpAny_bind (wpAny_newObj_type ?_ (by size_fits));refine wpAny_bind (m:=firstArgMember _ _) (wpAny_of_eq (a:=Value.none) (by first|rfl |(simp only[firstArgMember];rfl)) ?_);refine wpAny_newObj_type ?_ (by size_fits);simp only[raiseNew];refine wpAny_bind (wpAny_handled ?_);rw[show A.in1.handled=none from hh];refine wpAny_bind (wpAny_pure (wpAny_throw ?_));refine wpAny_bind (wpAny_isInstance (T := "StopIteration") (b:=true) ⟨_,Heap.get?_push_size _ rfl,rfl⟩ isSubtype_stop ?_);exact wpAny_pure (hQ _ (((Heap.SameBut.update ..).extBut.push _).push _))
end
end PySem
namespace L2
open PySem PySem.Spec PyProof.Rows
abbrev zwo:=DSt->(D->DSt->Prop)->Prop
abbrev zwp:=DSt->(Bool->DSt->Prop)->Prop
abbrev zwq:=List W->O->O->List W->(D->O->O->Prop)->Prop
abbrev EXG:=Str×List (Str×Int)->O->Prop
abbrev zwr:=(D->List D->Prop)->DSt->Prop
end L2
namespace STB
open PySem SV
def OkM(m:Nat):Prop:=m=7\/m=31\/m=127\/m=511
def gI(m i:Nat):Nat:=(i * 5+1) % (m+1)
def gK(m:Nat):Nat->Nat->Nat
 |0,i=>i
 |k+1,i=>gK m k (gI m i)
theorem zeu(m:Nat):∀(a b i:Nat),gK m (a+b) i=gK m b (gK m a i)
 |0,b,i=>by rw[Nat.zero_add];rfl
 |a+1,b,i=>by rw[show a+1+b=a+b+1 by lia];exact zeu m a b (gI m i)
def ztb(m:Nat):Nat->Nat->List Nat
 |0,_=>[]
 |k+1,i=>i::ztb m k (gI m i)
theorem zjr(m:Nat):∀(k i j:Nat),j∈ztb m k i->∃a,a<k/\gK m a i=j
 |0,_,_,h=>nomatch h
 |k+1,i,j,h=>by
  rcases List.mem_cons.mp h with rfl|h
  ·exact⟨0,by lia,rfl⟩
  ·obtain⟨a,h1,h2⟩:=zjr m k _ _ h;exact⟨a+1,by lia,h2⟩
def zvc(m:Nat):Bool:=((List.range (m+1)).all λj=>(ztb m (m+1) 0).any (Nat.beq j)) && Nat.beq (gK m (m+1) 0) 0
theorem zp1{m:Nat}(h:OkM m):zvc m=true:=by
 rcases h with rfl|rfl|rfl|rfl
 ·decide +kernel
 ·decide +kernel
 ·decide +kernel
 ·decide +kernel
theorem zvd{m:Nat}(h:OkM m){i j:Nat}(hi:i<=m)(hj:j<=m):∃k,k<=m/\gK m k i=j:=by
 have f:=zp1 h;unfold zvc at f;rw[Bool.and_eq_true,List.all_eq_true]at f;obtain⟨f1,f2⟩:=f;have f2:=Nat.eq_of_beq_eq_true f2;have at0:∀j,j<=m->∃a,a<=m/\gK m a 0=j:=λj hj=>by
  have:=f1 j (List.mem_range.mpr (by lia));rw[List.any_eq_true]at this;obtain⟨x,hx,e⟩:=this;obtain⟨a,h1,h2⟩:=zjr m _ _ _ hx;exact⟨a,by (clear hi f2 hj h2;lia),h2.trans (Nat.eq_of_beq_eq_true e).symm⟩
 obtain⟨a,ha,ea⟩:=at0 i hi;obtain⟨b,hb,eb⟩:=at0 j hj
 by_cases c:a<=b
 ·refine⟨b-a,by (clear hj f2 ea eb;lia),?_⟩;rw[<-ea,<-zeu,show a+(b-a)=b by (clear hi hj f2 ha ea hb eb;omega),eb]
 ·refine⟨m+1+b-a,by (clear hi hj f2 ea hb eb;omega),?_⟩;rw[<-ea,<-zeu,show a+(m+1+b-a)=m+1+b by lia,zeu,f2,eb]
def lpK(m:Nat):Nat->Nat×Nat->Nat×Nat
 |0,x=>x
 |k+1,x=>lpK m k (SetTable.leap m x.1 x.2)
theorem zjs(m:Nat):∀(a b:Nat) (x:Nat×Nat),lpK m (a+b) x=lpK m b (lpK m a x)
 |0,b,x=>by rw[Nat.zero_add];rfl
 |a+1,b,x=>by rw[show a+1+b=a+b+1 by lia];exact zjs m a b _
theorem znd{m:Nat}:∀(k:Nat) {x:Nat×Nat},x.1<=m->(lpK m k x).1<=m
 |0,_,h=>h
 |k+1,x,_=>znd k (Nat.le_of_lt_succ (Nat.mod_lt _ (Nat.succ_pos m)))
theorem zjt{m:Nat}:∀(k:Nat) (x:Nat×Nat),(lpK m k x).2=x.2 / 32 ^ k
 |0,x=>by simp[lpK]
 |k+1,x=>by
  show(lpK m k (SetTable.leap m x.1 x.2)).2=_;rw[zjt k];show x.2 / 32 / 32 ^ k=_;rw[Nat.div_div_eq_div_mul,Nat.pow_succ,Nat.mul_comm 32]
theorem zgd{m:Nat}:∀(k i:Nat),lpK m k (i,0)=(gK m k i,0)
 |0,_=>rfl
 |k+1,i=>by
  show lpK m k (SetTable.leap m i 0)=_;rw[show SetTable.leap m i 0=(gI m i,0) by unfold SetTable.leap gI;simp];exact zgd k _
theorem reach{m:Nat}(h:OkM m){i p j:Nat}(hi:i<=m)(hp:p<2 ^ 64)(hj:j<=m):∃k,k<=13+m/\(lpK m k (i,p)).1=j:=by
 have e:(lpK m 13 (i,p)).2=0:=by
  rw[zjt];exact Nat.div_eq_of_lt (Nat.lt_of_lt_of_le hp (by decide))
 have le:=znd (m:=m) 13 (x:=(i,p)) hi;obtain⟨k,hk,ek⟩:=zvd h le hj;refine⟨13+k,by (clear hi hp hj e le ek;lia),?_⟩;rw[zjs,show lpK m 13 (i,p)=((lpK m 13 (i,p)).1,0) from Prod.ext rfl e,zgd];exact ek
def adv(t:SetTable):Nat->SetTable.Probe->SetTable.Probe
 |0,p=>p
 |n+1,p=>adv t n (t.advance p)
theorem wa(t:SetTable):∀(a b:Nat) (p:SetTable.Probe),adv t (a+b) p=adv t b (adv t a p)
 |0,b,p=>by rw[Nat.zero_add];rfl
 |a+1,b,p=>by rw[show a+1+b=a+b+1 by lia];exact wa t a b _
theorem zdv(t:SetTable)(p:SetTable.Probe):(t.advance p).dummy=p.dummy:=by
 unfold SetTable.advance
 split <;> rfl
def lst(t:SetTable)(x:Nat×Nat):SetTable.Probe:={ j:=x.1,more:=SetTable.runEnd t.mask x.1-x.1,i:=x.1,perturb:=x.2,dummy:=none }
theorem zne{m i:Nat}:SetTable.runEnd m i-i<=9:=by
 unfold SetTable.runEnd
 split <;> lia
theorem zbw{t:SetTable}:∀(n:Nat) (p:SetTable.Probe),p.more=n->p.dummy=none->adv t (n+1) p=lst t (SetTable.leap t.mask p.i p.perturb)
 |0,p,h,d=>by
  show t.advance p=_;unfold SetTable.advance;rw[if_neg (by lia)];obtain⟨j,more,i,pt,dm⟩:=p
  cases d;rfl
 |n+1,p,h,d=>by
  show adv t (n+1) (t.advance p)=_;have e:t.advance p = { p with j:=p.j+1,more:=p.more-1 }:=by
   unfold SetTable.advance;rw[if_pos (by lia)]
  rw[e];exact zbw n _ (by show p.more-1=n;lia) d
theorem zdw{t:SetTable}:∀(k:Nat) (x:Nat×Nat),∃n,n<=10 * k/\adv t n (lst t x)=lst t (lpK t.mask k x)
 |0,x=>⟨0,by omega,rfl⟩
 |k+1,x=>by
  obtain⟨n,hn,e⟩:=zdw k (SetTable.leap t.mask x.1 x.2);refine⟨(lst t x).more+1+n,?_,?_⟩
  ·have:(lst t x).more<=9:=zne;lia
  ·rw[wa,zbw _ _ rfl rfl];exact e
theorem way{t:SetTable}(h:OkM t.mask){p:SetTable.Probe}(hd:p.dummy=none)(hm:p.more<=9)(hi:p.i<=t.mask)(hp:p.perturb<2 ^ 64){j:Nat}(hj:j<=t.mask):∃n,n<10 * SetTable.turns t.mask/\(adv t n p).j=j:=by
 have h1:(SetTable.leap t.mask p.i p.perturb).1<=t.mask:=Nat.le_of_lt_succ (Nat.mod_lt _ (Nat.succ_pos _));have h2:(SetTable.leap t.mask p.i p.perturb).2<2 ^ 64:=Nat.lt_of_le_of_lt (Nat.div_le_self _ _) hp;obtain⟨k,hk,ek⟩:=reach h h1 h2 hj;obtain⟨n,hn,e⟩:=zdw (t:=t) k (SetTable.leap t.mask p.i p.perturb);refine⟨p.more+1+n,?_,?_⟩
 ·unfold SetTable.turns;(clear hi hp hj h1 h2 ek;lia)
 ·rw[wa,zbw _ _ rfl hd,e];exact ek
theorem zev{t:SetTable}(hd:t.dummies = #[])(j:Nat):t.slot j ≠ .dummy:=by
 unfold SetTable.slot;dsimp only;rw[hd,show SetTable.has #[] j=false by unfold SetTable.has;simp]
 split <;> simp
theorem zju:∀(l l':List Nat),l.Nodup->(∀a∈l,a∈l')->l.length<=l'.length
 |[],_,_,_=>Nat.zero_le _
 |a::l,l',nd,h=>by
  have ha:=h a List.mem_cons_self;obtain⟨na,nl⟩:=List.nodup_cons.mp nd;have:=zju l (l'.erase a) nl λb hb=>(List.mem_erase_of_ne (by rintro rfl;exact na hb)).mpr (h b (List.mem_cons_of_mem _ hb));rw[List.length_erase_of_mem ha]at this;have:0<l'.length:=List.length_pos_of_mem ha;rw[List.length_cons];lia
theorem ztc{t:SetTable}(hd:t.dummies = #[])(hs:t.place.size<=t.mask):∃j,j<=t.mask/\t.slot j=.empty:=by
 have ex:∃j,j<=t.mask/\j∉t.place.toList:=by
  refine Classical.byContradiction λn=>?_;have all:∀j∈List.range (t.mask+1),j∈t.place.toList:=λj hj=>by
   have:=List.mem_range.mp hj;exact Classical.byContradiction λc=>n ⟨j,by lia,c⟩
  have:=zju _ _ List.nodup_range all;rw[List.length_range,Array.length_toList]at this;lia
 obtain⟨j,hj,hn⟩:=ex;refine⟨j,hj,?_⟩;unfold SetTable.slot;dsimp only;rw[if_neg,hd,show SetTable.has #[] j=false by unfold SetTable.has;simp]
 ·rfl
 ·intro c;have c:=eq_of_beq c;exact hn (Array.mem_toList_iff.mpr (Array.mem_of_getElem? c))
theorem zjv(m i p:Nat):(SetTable.leap m i p).1<=m:=Nat.le_of_lt_succ (Nat.mod_lt _ (Nat.succ_pos _))
theorem zdx{m:Nat}{owner:Array (Option Nat)}(hs:owner.size=m+1):∀(k fuel i p:Nat),i<=m->owner.getD (lpK m k (i,p)).1 (some 0)=none->k<fuel->∃j,SetTable.layClean.free m owner fuel i p=some j/\j<=m/\owner.getD j (some 0)=none
 |k,0,_,_,_,_,h=>absurd h (Nat.not_lt_zero _)
 |k,fuel+1,i,p,hi,he,hk=>by
  unfold SetTable.layClean.free
  cases e:(List.range (SetTable.runEnd m i+1-i)).find? (λk=>(owner.getD (i+k) (some 0)).isNone) with
  |some d=>
   dsimp only;have h1:=List.find?_some e;have h2:owner.getD (i+d) (some 0)=none:=by simpa using h1
   refine⟨i+d,rfl,?_,h2⟩;refine Classical.byContradiction λc=>?_;rw[Array.getD,dif_neg (by lia)]at h2
   cases h2
  |none=>
   dsimp only
   cases k with
   |zero=>
    exfalso;have h1:=List.find?_eq_none.mp e 0 (List.mem_range.mpr (by
     have:i<=SetTable.runEnd m i:=by unfold SetTable.runEnd;split <;> lia
     (clear hs hk;omega)))
    rw[Nat.add_zero,show owner.getD i (some 0)=none from he]at h1;exact h1 rfl
   |succ k=>
    exact zdx hs k fuel _ _ (zjv m i p) he (by (clear hs hi;lia))
theorem fm_congr{α β:Type}{f g:α->Option β}:∀{l:List α},(∀x∈l,f x=g x)->l.filterMap f=l.filterMap g
 |[],_=>rfl
 |a::l,h=>by rw[List.filterMap_cons,List.filterMap_cons,h a List.mem_cons_self,fm_congr λx hx=>h x (List.mem_cons_of_mem _ hx)]
def occ(m:Nat)(owner:Array (Option Nat)):List Nat:=(List.range (m+1)).filterMap λj=>owner.getD j none
theorem zp2{m:Nat}{owner:Array (Option Nat)}(hs:owner.size=m+1){j k:Nat}(hj:j<=m)(hn:owner.getD j (some 0)=none):(occ m (owner.setIfInBounds j (some k))).Perm (k::occ m owner):=by
 have hjs:j<owner.size:=by lia
 have split:∀(a n:Nat),a<=n->(List.range n)=List.range a++(List.range (n-a)).map (a + ·):=λa n h=>by
  rw[<-List.range_add,show a+(n-a)=n by (clear hs hj hjs;omega)]
 have e1:List.range (m+1)=List.range j++j::(List.range (m-j)).map (j+1 + ·):=by
  rw[split (j+1) (m+1) (by lia),List.range_succ,List.append_assoc,show m+1-(j+1)=m-j by lia];rfl
 have ne:∀i,i≠j->(owner.setIfInBounds j (some k)).getD i none=owner.getD i none:=λi h=>by
  simp only[Array.getD_eq_getD_getElem?];rw[Array.getElem?_setIfInBounds_ne (Ne.symm h)]
 have at1:(owner.setIfInBounds j (some k)).getD j none=some k:=by
  simp only[Array.getD_eq_getD_getElem?];rw[Array.getElem?_setIfInBounds_self_of_lt hjs];rfl
 have at0:owner.getD j none=none:=by
  simp only[Array.getD_eq_getD_getElem?]at hn ⊢
  cases e:owner[j]? with
  |none=>rfl
  |some x=>rw[e]at hn;exact hn
 unfold occ;rw[e1,List.filterMap_append,List.filterMap_append,List.filterMap_cons,List.filterMap_cons,at1,at0];have c1:(List.range j).filterMap (λi=>(owner.setIfInBounds j (some k)).getD i none)=(List.range j).filterMap λi=>owner.getD i none:=fm_congr λi hi=>ne i (by have:=List.mem_range.mp hi;lia);have c2:((List.range (m-j)).map (j+1 + ·)).filterMap (λi=>(owner.setIfInBounds j (some k)).getD i none)=((List.range (m-j)).map (j+1 + ·)).filterMap λi=>owner.getD i none:=fm_congr λi hi=>ne i (by obtain⟨x,_,rfl⟩:=List.mem_map.mp hi;lia);rw[c1,c2];exact List.perm_middle
theorem znf{m:Nat}{owner:Array (Option Nat)}(hs:owner.size=m+1)(h:(occ m owner).length<=m):∃j,j<=m/\owner.getD j (some 0)=none:=by
 refine Classical.byContradiction λn=>?_;have all:∀j∈List.range (m+1),(owner.getD j none).isSome=true:=λj hj=>by
  have hj:=List.mem_range.mp hj
  cases e:owner.getD j none with
  |some x=>rfl
  |none=>
   exfalso;refine n ⟨j,by lia,?_⟩;simp only[Array.getD_eq_getD_getElem?]at e ⊢;rw[Array.getElem?_eq_getElem (by lia)]at e ⊢;exact e
 have:(occ m owner).length=m+1:=by
  unfold occ;have:∀l:List Nat,(∀j∈l,(owner.getD j none).isSome=true)->(l.filterMap λj=>owner.getD j none).length=l.length:=λl=>by
   induction l with
   |nil=>intro _;rfl
   |cons a l ih=>
    intro h;obtain⟨x,hx⟩:=Option.isSome_iff_exists.mp (h a List.mem_cons_self);rw[List.filterMap_cons,hx,List.length_cons,List.length_cons,ih λj hj=>h j (List.mem_cons_of_mem _ hj)]
  rw[this _ all,List.length_range]
 lia
theorem zjw(h:Int):SetTable.bits h<2 ^ 64:=by
 unfold SetTable.bits;have h1:0<=h % (2 ^ 64:Int):=Int.emod_nonneg _ (by decide);have h2:h % (2 ^ 64:Int)<2 ^ 64:=Int.emod_lt_of_pos _ (by decide);lia
theorem zge{m:Nat}(hm:OkM m):∀(hs:List Int) (owner:Array (Option Nat)) (k:Nat),owner.size=m+1->(occ m owner).Perm (List.range k)->k+hs.length<=m ->
  ∃o,List.foldl (λacc h=>(do
   let (owner,k) <-acc
   let j <-SetTable.layClean.free m owner (SetTable.turns m) (SetTable.bits h % (m+1)) (SetTable.bits h)
   pure (owner.setIfInBounds j (some k),k+1):Option (Array (Option Nat)×Nat))) (some (owner,k)) hs=some (o,k+hs.length)/\o.size=m+1/\(occ m o).Perm (List.range (k+hs.length))
 |[],owner,k,h1,h2,_=>⟨owner,rfl,h1,h2⟩
 |h::hs,owner,k,h1,h2,h3=>by
  rw[List.length_cons]at h3;obtain⟨j,hj,hn⟩:=znf h1 (by rw[h2.length_eq,List.length_range];lia);have hi:SetTable.bits h % (m+1)<=m:=Nat.le_of_lt_succ (Nat.mod_lt _ (Nat.succ_pos _));obtain⟨n,hn1,hn2⟩:=reach hm hi (zjw h) hj;obtain⟨j',e1,e2,e3⟩:=zdx h1 n (SetTable.turns m) _ (SetTable.bits h) hi (by rw[hn2];exact hn) (by unfold SetTable.turns;(clear h1 h3 hj hi hn2;lia));rw[List.foldl_cons];dsimp only[Option.bind_eq_bind,Option.bind_some,bind];rw[e1];dsimp only[Option.bind_some,pure];have p:=zp2 h1 e2 e3 (k:=k);have p2:(occ m (owner.setIfInBounds j' (some k))).Perm (List.range (k+1)):=by
   rw[List.range_succ];exact(p.trans (h2.cons k)).trans (List.perm_append_comm (l₁:=[k]))
  obtain⟨o,f1,f2,f3⟩:=zge hm hs _ (k+1) (by rw[Array.size_setIfInBounds];exact h1) p2 (by (clear h1 hi hn2;lia));refine⟨o,?_,f2,?_⟩
  ·rw[List.length_cons,show k+(hs.length+1)=k+1+hs.length by (clear h1 h3 hj hi hn1 hn2 e2 f2;lia)];exact f1
  ·rw[List.length_cons,show k+(hs.length+1)=k+1+hs.length by lia];exact f3
theorem zp3{m f mv:Nat}{led pl:Bool}(hm:OkM m)(hs:Array Int)(hl:hs.size<=m):∃t order,SetTable.laid m f mv led pl hs=some (t,order)/\t.mask=m/\t.place.size=hs.size/\t.dummies = #[]/\t.led=led/\t.plain=pl/\order.toList.Perm (List.range hs.size):=by
 have h0:occ m (Array.replicate (m+1) none) = []:=by
  unfold occ;rw[List.filterMap_eq_nil_iff];intro j _;simp only[Array.getD_eq_getD_getElem?,Array.getElem?_replicate]
  split <;> rfl
 obtain⟨o,h1,h2,h3⟩:=zge hm hs.toList (Array.replicate (m+1) none) 0 Array.size_replicate (by rw[h0];exact List.Perm.refl _) (by rw[Array.length_toList];lia);rw[Nat.zero_add,Array.length_toList]at h1 h3;have e1:SetTable.layClean m hs=some o:=by
  unfold SetTable.layClean;rw[<-Array.foldl_toList];rw[h1];rfl
 unfold SetTable.laid;rw[e1];refine⟨_,_,rfl,rfl,?_,rfl,rfl,rfl,?_⟩
 ·simp only[List.size_toArray,List.length_map]
  have:((List.range (m+1)).filterMap λj=>(o.getD j none).map (j,·)).length=(occ m o).length:=by
   unfold occ
   induction List.range (m+1) with
   |nil=>rfl
   |cons a l ih=>
    rw[List.filterMap_cons,List.filterMap_cons]
    cases o.getD a none with
    |none=>exact ih
    |some x=>simp only[Option.map_some,List.length_cons,ih]
  rw[this,h3.length_eq,List.length_range]
 ·have:((List.range (m+1)).filterMap λj=>(o.getD j none).map (j,·)).map (·.2)=occ m o:=by
   unfold occ;rw[List.map_filterMap];refine fm_congr λj _=>?_
   cases o.getD j none <;> rfl
  rw[this];exact h3
end STB
namespace PySem
open STB SV
structure zng(prog:Program)(w:World)(K:Type)[DecidableEq K] extends HeapKind prog w K where
 pers:∀{h h':Heap}{k:K}{a:Addr},is h k a->(∀b o,h.get? b=some o->o.cls=.type "tuple" -> h'.get? b=some o)->is h' k a
 hv:∀{A:Around}{E:Value->Shared->Prop}{s:Shared}{k:K}{a:Addr}{Q:Bool->Shared->Prop},is s.heap k a->(∀b,Q b s)->wpAny (model prog w) A (hashByValue 8 (.ref a)) Q E s
 stm:∀{A:Around}{E:Value->Shared->Prop}{s:Shared}{k:K}{a:Addr}{Q:Bool->Shared->Prop},is s.heap k a->Q false s->wpAny (model prog w) A (ofAClassStatement 8 (.ref a)) Q E s
structure TabI(w:World)(t:SetTable)(n:Nat):Prop where
 m:OkM t.mask
 d:t.dummies = #[]
 p:t.place.size=n
 r:Ris t.place
 f:n * 5<t.mask * 3
 l:t.led = !w.params.followText "set-order"
theorem TabI.le{w:World}{t:SetTable}{n:Nat}(h:TabI w t n):n<=t.mask:=by have:=h.f;lia
theorem zjx{t:SetTable}{n:Nat}(hp:t.place.size=n)(hd:t.dummies = #[])(hn:n<=t.mask):t.fits n=true:=by
 unfold SetTable.fits SetTable.fill;rw[hd,hp];simp[hn]
theorem TabI.fits{w:World}{t:SetTable}{n:Nat}(h:TabI w t n):t.fits n=true:=zjx h.p h.d h.le
theorem TabI.way{w:World}{t:SetTable}{n:Nat}(h:TabI w t n){p:SetTable.Probe}(hd:p.dummy=none)(hm:p.more<=9)(hi:p.i<=t.mask)(hp:p.perturb<2 ^ 64):∃n,n<10 * SetTable.turns t.mask/\t.slot (adv t n p).j=.empty:=by
 obtain⟨j,hj,e⟩:=ztc h.d (by rw[h.p];exact h.le);obtain⟨n,h1,h2⟩:=STB.way h.m hd hm hi hp hj;exact⟨n,h1,by rw[h2];exact e⟩
theorem znh{t:SetTable}:∀(n:Nat) {p:SetTable.Probe},p.dummy=none->(adv t n p).dummy=none
 |0,_,h=>h
 |n+1,p,h=>znh n ((zdv t p).trans h)
theorem zew{t:SetTable}{j i:Nat}(h:t.slot j=.live i):t.place[i]?=some j:=by
 unfold SetTable.slot at h;dsimp only at h
 split at h
 ·next c=>cases h;exact eq_of_beq c
 ·split at h <;> cases h
section
variable {prog:Program}{w:World}{K:Type}[DecidableEq K](knd:zng prog w K)
variable {A:Around}{E:Value->Shared->Prop}{s:Shared}
theorem zc4{k:K}{x:Addr}{Q:Bool->Shared->Prop}(hx:knd.is s.heap k x)(l:List Value)(hl:∀y∈l,∃k' b,y=.ref b/\knd.is s.heap k' b)(q:Q false s):
  wpAny (model prog w) A (searchCouldBeSeen (.ref x) l) Q E s:=by
 unfold searchCouldBeSeen;refine wpAny_bind ?_;refine wpAny_forIn_list _ (λrest r s'=>r.1=none/\s'=s/\∀y∈rest,∃k' b,y=.ref b/\knd.is s.heap k' b) _ ?_ ?_ _ _ ⟨rfl,rfl,hl⟩
 ·rintro y rest r s' ⟨hr,rfl,hall⟩;obtain⟨k',b,rfl,hb⟩:=hall y List.mem_cons_self;have rest':∀y∈rest,∃k' b,y=.ref b/\knd.is s'.heap k' b:=λz hz=>hall z (List.mem_cons_of_mem _ hz);dsimp only
  by_cases c:(x == b ||(carriedByValue (.ref x) && carriedByValue (.ref b)))=true
  ·rw[if_pos c];exact wpAny_pure ⟨rfl,rfl,rest'⟩
  ·rw[if_neg c];refine wpAny_bind (knd.quiet hx ?_);simp only[Bool.not_true,Bool.false_eq_true,if_false];refine wpAny_bind (knd.quiet hb ?_);simp only[Bool.not_true,Bool.false_eq_true,if_false];refine wpAny_bind (knd.stm hx ?_);simp only[Bool.false_eq_true,if_false];refine wpAny_bind (knd.stm hb ?_);simp only[Bool.false_eq_true,if_false];exact wpAny_pure ⟨rfl,rfl,rest'⟩
 ·rintro ⟨r1,r2⟩ s' ⟨hr,rfl,_⟩;simp only at hr;subst hr;exact wpAny_pure q
theorem SetH.size{bs:List (K×Addr)}{es:Array (Int×Value)}(hp:es.toList.Perm (bs.map λp=>(knd.hash p.1,Value.ref p.2))):es.size=bs.length:=by
 rw[<-Array.length_toList,hp.length_eq,List.length_map]
def zq4(es:Array (Int×Value))(laid:Option (SetTable×Array Nat)):Sem (Array (Int×Value)×SetTable):=do
 let some (t,order):=laid|unsupported "internal:set-table-without-room"
 let es':=order.filterMap (es[·]?)
 if es'.size != es.size then unsupported "internal:set-table-lost-an-element"
 pure (es',t)
theorem ztd(l:List (Int×Value)):(List.range l.length).filterMap (l[·]?)=l:=by
 induction l with
 |nil=>rfl
 |cons a l ih=>
  rw[List.length_cons,List.range_succ_eq_map,List.filterMap_cons];simp only[List.getElem?_cons_zero,List.filterMap_map];congr 1
theorem zh7{es:Array (Int×Value)}{order:Array Nat}(h:order.toList.Perm (List.range es.size)):(order.filterMap (es[·]?)).toList.Perm es.toList:=by
 have e:(order.filterMap (es[·]?)).toList=order.toList.filterMap (es.toList[·]?):=by
  rw[Array.toList_filterMap];simp only[Array.getElem?_toList]
 rw[e];refine(h.filterMap _).trans ?_;rw[<-Array.length_toList,ztd]
end
end PySem
namespace PySem
open STB SV
section
variable {prog:Program}{w:World}{K:Type}[DecidableEq K]{knd:KeyKind prog w K}{A:Around}{E:Value->Shared->Prop}{s:Shared}
theorem x8(n:Nat){v:Value}(h:carriedByValue v=true):∃b,hashByValue n v=pure b:=by
 cases v with
 |ref a=>simp[carriedByValue]at h
 |_=>first|exact⟨_,rfl⟩ |(unfold hashByValue;exact⟨_,rfl⟩)
theorem va(n:Nat){v:Value}(h:carriedByValue v=true):ofAClassStatement n v=pure false:=by
 cases v with
 |ref a=>simp[carriedByValue]at h
 |_=>first|rfl |(unfold ofAClassStatement;rfl)
end
end PySem
namespace PySem
open STB SV
mutual
inductive xb(h:Heap):PyData->Value->Prop
 |int (n:Int) (t:Tok):xb h (.int n) (.int n t)
 |str (x:Str) (t:Tok):xb h (.str x) (.str x t)
 |tup {a:Addr}{o:Obj}{ds:List PyData}{items:Array Value}{n:Nat}:h.get? a=some o->o.cls=.type "tuple" -> o.data=.seq items n->KReps h ds items.toList->xb h (.tuple ds) (.ref a)
inductive KReps(h:Heap):List PyData->List Value->Prop
 |nil:KReps h [] []
 |cons {d:PyData}{ds:List PyData}{v:Value}{vs:List Value}:xb h d v->KReps h ds vs->KReps h (d::ds) (v::vs)
end
mutual
theorem vf{h h':Heap}(k:∀b o,h.get? b=some o->o.cls=.type "tuple" ->(∃items n,o.data=.seq items n)->h'.get? b=some o):∀(d:PyData) (v:Value),xb h d v->xb h' d v
 |.int _,_,r=>by cases r;exact .int _ _
 |.str _,_,r=>by cases r;exact .str _ _
 |.tuple ds,_,r=>by cases r with|tup g c e r=>exact .tup (k _ _ g c ⟨_,_,e⟩) c e (kr_persA k ds _ r)
 |.none,_,r=>nomatch r
 |.bool _,_,r=>nomatch r
 |.list _,_,r=>nomatch r
 |.dict _,_,r=>nomatch r
theorem kr_persA{h h':Heap}(k:∀b o,h.get? b=some o->o.cls=.type "tuple" ->(∃items n,o.data=.seq items n)->h'.get? b=some o):∀(ds:List PyData) (vs:List Value),KReps h ds vs->KReps h' ds vs
 |[],_,r=>by cases r;exact .nil
 |d::ds,_,r=>by cases r with|cons r rs=>exact .cons (vf k d _ r) (kr_persA k ds _ rs)
end
mutual
theorem zex{h:Heap}:∀(d d':PyData) (v:Value),xb h d v->xb h d' v->d=d'
 |.int _,_,_,q,r=>by cases q;cases r;rfl
 |.str _,_,_,q,r=>by cases q;cases r;rfl
 |.none,_,_,r,_=>nomatch r
 |.bool _,_,_,r,_=>nomatch r
 |.list _,_,_,r,_=>nomatch r
 |.dict _,_,_,r,_=>nomatch r
 |.tuple ds,_,_,q,r'=>by
  cases q with|tup g c e r=>
  cases r' with
  |@tup _ _ ds' _ _ g' c' e' rr=>
   rw[g]at g'
   cases g';rw[e]at e';injection e' with e1 _
   subst e1;rw[kr_uniqA ds ds' _ r rr]
theorem kr_uniqA{h:Heap}:∀(ds ds':List PyData) (vs:List Value),KReps h ds vs->KReps h ds' vs->ds=ds'
 |[],_,_,q,r=>by cases q;cases r;rfl
 |d::ds,_,_,q,r'=>by
  cases q with|cons r rs=>
  cases r' with
  |@cons d' ds' _ _ q qs=>rw[zex d d' _ r q,kr_uniqA ds ds' _ rs qs]
end
mutual
theorem qb{h:Heap}:∀(d:PyData) (v:Value),xb h d v->∃as,Reads h v d as
 |.int _,_,r=>by cases r;exact⟨_,.int _ _⟩
 |.str _,_,r=>by cases r;exact⟨_,.str _ _⟩
 |.none,_,r=>nomatch r
 |.bool _,_,r=>nomatch r
 |.list _,_,r=>nomatch r
 |.dict _,_,r=>nomatch r
 |.tuple ds,_,q=>by
  cases q with|tup g c e r=>
  obtain⟨as,q⟩:=kr_readsA ds _ r;exact⟨as,.tuple g c e q⟩
theorem kr_readsA{h:Heap}:∀(ds:List PyData) (vs:List Value),KReps h ds vs->∃as,ReadsAll h vs ds as
 |[],_,r=>by cases r;exact⟨_,.nil⟩
 |d::ds,_,q=>by
  cases q with|cons r rs=>
  obtain⟨as,q⟩:=qb d _ r;obtain⟨bs,qs⟩:=kr_readsA ds _ rs;exact⟨_,.cons q qs⟩
end
mutual
theorem zgf{h:Heap}:∀(d:PyData) (v:Value),xb h d v->L2.NB d=true
 |.int _,_,r=>rfl
 |.str _,_,r=>rfl
 |.none,_,r=>nomatch r
 |.bool _,_,r=>nomatch r
 |.list _,_,r=>nomatch r
 |.dict _,_,r=>nomatch r
 |.tuple ds,_,q=>by
  cases q with|tup g c e r=>
  exact kr_nbA ds _ r
theorem kr_nbA{h:Heap}:∀(ds:List PyData) (vs:List Value),KReps h ds vs->L2.NBs ds=true
 |[],_,r=>rfl
 |d::ds,_,q=>by
  cases q with|cons r rs=>
  have q1:=zgf d _ r;have q2:=kr_nbA ds _ rs;simp only[L2.NBs,q1,q2,Bool.and_self]
end
end PySem
set_option maxHeartbeats 1000000
namespace PySem
open STB SV
mutual
def zgg:PyData->Nat
 |.tuple ds=>kdrawA ds+1
 |_=>1
def kdrawA:List PyData->Nat
 |[]=>0
 |d::ds=>zgg d+kdrawA ds
end
section
variable {prog:Program}{w:World}{E:Value->Shared->Prop}
mutual
theorem zjy:∀(d:PyData) (v:Value) (A:Around) (s:Shared) (Q:Int->Shared->Prop),xb s.heap d v->A.units+d.depth<cLine->Q (jy prog w d) { s with toks:=s.toks+zgg d }->wpAny (model prog w) A (pyHash v) Q E s
 |.int n,_,A,s,Q,r,_,h=>by
  cases r with|int _ t=>
  simp only[jy,zgg]at h;exact(L2.mixKind prog w).pyHash (k:=.inl n) (L2.keyIs_int n t) h
 |.str x,_,A,s,Q,r,_,h=>by
  cases r with|str _ t=>
  simp only[jy,zgg]at h;exact(L2.mixKind prog w).pyHash (k:=.inr x) (L2.keyIs_str x t) h
 |.none,_,_,_,_,r,_,_=>nomatch r
 |.bool _,_,_,_,_,r,_,_=>nomatch r
 |.list _,_,_,_,_,r,_,_=>nomatch r
 |.dict _,_,_,_,_,r,_,_=>nomatch r
 |.tuple ds,_,A,s,Q,q,hu,h=>by
  cases q with|@tup a o _ items n g c e r=>
  refine W.pyHash_slot (T := "tuple") ⟨_,g,c⟩ F.slot_tuple_hash F.entry_tuple_hash (F.args_tuple_hash_1 _) (beq_builtin_none _) (.inr (by lia)) ?_;show wpAny _ _ (Builtin.Tuple.tupleItemsOf (.ref a) >>= _) _ _ s;refine wpAny_bind (wpAny_tupleItemsOf g e ?_);refine wpAny_bind ?_;rw[<-Array.forIn_toList];refine kr_hashA ds items.toList A.in1 { s with toks:=s.toks } #[] _ r (by simp only[PyData.depth,Around.in1_units]at hu ⊢;lia) λb hb=>?_;show wpAny _ _ (retInt (Builtin.Tuple.tupleHashOf b.toList)) _ _ _;rw[hb];exact wpAny_bind (wpAny_mkInt (wpAny_pure ⟨_,_,rfl,h⟩))
theorem kr_hashA:∀(ds:List PyData) (vs:List Value) (A:Around) (s:Shared) (b:Array Int) (Q:Array Int->Shared->Prop),KReps s.heap ds vs->A.units+PyData.depthAll ds<cLine ->
  (∀b',b'.toList=b.toList++khashA prog w ds->Q b' { s with toks:=s.toks+kdrawA ds }) ->
  wpAny (model prog w) A (forIn vs b λx r=>do let h <-pyHash x;pure PUnit.unit;pure (ForInStep.yield (r.push h))) Q E s
 |[],_,A,s,b,Q,r,_,h=>by
  cases r;exact wpAny_pure (h b (by rw[khashA,List.append_nil]))
 |d::ds,_,A,s,b,Q,q,hu,h=>by
  cases q with|cons r rs=>
  rw[PyData.depthAll]at hu;rw[List.forIn_cons];refine wpAny_bind (wpAny_bind (zjy d _ A s _ r (by lia) ?_));refine wpAny_bind (wpAny_pure (wpAny_pure ?_));refine kr_hashA ds _ A _ _ Q rs (by lia) λb' hb=>?_;have:=h b' (by rw[hb,khashA,Array.toList_push,List.append_assoc];rfl);rw[kdrawA,<-Nat.add_assoc]at this;exact this
end
mutual
theorem zgh:∀(d:PyData) (v:Value) (n:Nat) (A:Around) (s:Shared) (Q:Bool->Shared->Prop),xb s.heap d v->d.depth<=n->Q true s->wpAny (model prog w) A (eqIsQuiet n v) Q E s
 |.int _,_,n,A,s,Q,r,_,h=>by cases r;rw[eqIsQuiet_byValue n rfl];exact wpAny_pure h
 |.str _,_,n,A,s,Q,r,_,h=>by cases r;rw[eqIsQuiet_byValue n rfl];exact wpAny_pure h
 |.none,_,_,_,_,_,r,_,_=>nomatch r
 |.bool _,_,_,_,_,_,r,_,_=>nomatch r
 |.list _,_,_,_,_,_,r,_,_=>nomatch r
 |.dict _,_,_,_,_,_,r,_,_=>nomatch r
 |.tuple ds,_,0,A,s,Q,q,hn,h=>absurd hn (by rw[PyData.depth];lia)
 |.tuple ds,_,n+1,A,s,Q,q,hn,h=>by
  cases q with|@tup a o _ items m g c e r=>
  have hT:s.TypeIs (.ref a) "tuple" :=⟨o,g,c⟩
  rw[PyData.depth]at hn;unfold eqIsQuiet;refine wpAny_bind (wpAny_specialOf hT F.slot_tuple_eq.lookup ?_);show wpAny _ _ (isInstance (.ref a) (.type "tuple") >>= _) _ _ s;refine wpAny_bind (wpAny_isInstance hT isSubtype_tuple_tuple ?_);simp only[Bool.not_true,Bool.false_eq_true,if_false];refine wpAny_bind (wpAny_seqItems g e ?_);refine wpAny_bind ?_;show wpAny _ _ (forIn items _ _) _ _ s;rw[<-Array.forIn_toList];exact kr_quietA ds items.toList n A s _ r (by lia) (wpAny_pure h)
theorem kr_quietA:∀(ds:List PyData) (vs:List Value) (n:Nat) (A:Around) (s:Shared) (Q:Option Bool×PUnit->Shared->Prop),KReps s.heap ds vs->PyData.depthAll ds<=n->Q (none,⟨⟩) s ->
  wpAny (model prog w) A (forIn vs ((none:Option Bool),PUnit.unit) λy r=>do
   if !(<-eqIsQuiet n y) then pure (ForInStep.done (some false,PUnit.unit)) else pure (ForInStep.yield (none,PUnit.unit))) Q E s
 |[],_,n,A,s,Q,r,_,h=>by
  cases r;exact wpAny_pure h
 |d::ds,_,n,A,s,Q,q,hn,h=>by
  cases q with|cons r rs=>
  rw[PyData.depthAll]at hn;rw[List.forIn_cons];refine wpAny_bind (wpAny_bind (zgh d _ n A s _ r (by lia) ?_));simp only[Bool.not_true,Bool.false_eq_true,if_false];exact wpAny_pure (kr_quietA ds _ n A s _ rs (by lia) h)
end
end
end PySem
namespace PySem
open STB SV
section
variable {prog:Program}{w:World}{E:Value->Shared->Prop}
mutual
theorem zni:∀(d:PyData) (v:Value) (n:Nat) (A:Around) (s:Shared) (Q:Bool->Shared->Prop),xb s.heap d v->d.depth<=n->Q false s->wpAny (model prog w) A (ofAClassStatement n v) Q E s
 |.int _,_,n,A,s,Q,r,_,h=>by cases r;rw[va n rfl];exact wpAny_pure h
 |.str _,_,n,A,s,Q,r,_,h=>by cases r;rw[va n rfl];exact wpAny_pure h
 |.none,_,_,_,_,_,r,_,_=>nomatch r
 |.bool _,_,_,_,_,_,r,_,_=>nomatch r
 |.list _,_,_,_,_,_,r,_,_=>nomatch r
 |.dict _,_,_,_,_,_,r,_,_=>nomatch r
 |.tuple ds,_,0,A,s,Q,q,hn,h=>absurd hn (by rw[PyData.depth];lia)
 |.tuple ds,_,n+1,A,s,Q,q,hn,h=>by
  cases q with|@tup a o _ items m g c e r=>
  have hT:s.TypeIs (.ref a) "tuple" :=⟨o,g,c⟩
  rw[PyData.depth]at hn;unfold ofAClassStatement;refine wpAny_bind (wpAny_typeOf hT ?_);dsimp only;rw[if_pos (by decide)];refine wpAny_bind (wpAny_pure ?_);simp only[Bool.not_true,Bool.false_eq_true,if_false];refine wpAny_bind (wpAny_seqItems g e ?_);dsimp only;refine wpAny_bind ?_;show wpAny _ _ (forIn items _ _) _ _ s;rw[<-Array.forIn_toList];exact kr_stmA ds items.toList n A s _ r (by lia) (wpAny_pure h)
theorem kr_stmA:∀(ds:List PyData) (vs:List Value) (n:Nat) (A:Around) (s:Shared) (Q:Option Bool×PUnit->Shared->Prop),KReps s.heap ds vs->PyData.depthAll ds<=n->Q (none,⟨⟩) s ->
  wpAny (model prog w) A (forIn vs ((none:Option Bool),PUnit.unit) λy r=>do
   if (<-ofAClassStatement n y) then pure (ForInStep.done (some true,PUnit.unit)) else pure (ForInStep.yield (none,PUnit.unit))) Q E s
 |[],_,n,A,s,Q,r,_,h=>by
  cases r;exact wpAny_pure h
 |d::ds,_,n,A,s,Q,q,hn,h=>by
  cases q with|cons r rs=>
  rw[PyData.depthAll]at hn;rw[List.forIn_cons];refine wpAny_bind (wpAny_bind (zni d _ n A s _ r (by lia) ?_));simp only[Bool.false_eq_true,if_false];exact wpAny_pure (kr_stmA ds _ n A s _ rs (by lia) h)
end
mutual
theorem zq5:∀(d:PyData) (v:Value) (n:Nat) (A:Around) (s:Shared) (Q:Bool->Shared->Prop),xb s.heap d v->d.depth<=n->(∀b,Q b s)->wpAny (model prog w) A (hashByValue n v) Q E s
 |.int _,v,n,A,s,Q,r,_,h=>by
  have z:carriedByValue v=true:=by cases r;rfl
  obtain⟨b,e⟩:=x8 n z;rw[e];exact wpAny_pure (h b)
 |.str _,v,n,A,s,Q,r,_,h=>by
  have z:carriedByValue v=true:=by cases r;rfl
  obtain⟨b,e⟩:=x8 n z;rw[e];exact wpAny_pure (h b)
 |.none,_,_,_,_,_,r,_,_=>nomatch r
 |.bool _,_,_,_,_,_,r,_,_=>nomatch r
 |.list _,_,_,_,_,_,r,_,_=>nomatch r
 |.dict _,_,_,_,_,_,r,_,_=>nomatch r
 |.tuple ds,_,0,A,s,Q,q,hn,h=>absurd hn (by rw[PyData.depth];lia)
 |.tuple ds,_,n+1,A,s,Q,q,hn,h=>by
  cases q with|@tup a o _ items m g c e r=>
  have hT:s.TypeIs (.ref a) "tuple" :=⟨o,g,c⟩
  rw[PyData.depth]at hn;unfold hashByValue;refine wpAny_bind (wpAny_specialOf hT F.slot_tuple_hash.lookup ?_);dsimp only;refine wpAny_bind (wpAny_seqItems g e ?_);refine wpAny_bind ?_;show wpAny _ _ (forIn items _ _) _ _ s;rw[<-Array.forIn_toList];refine kr_hvA ds items.toList n A s _ r (by lia) λp=>?_;rcases p with⟨_|b,_⟩
  ·exact wpAny_pure (h _)
  ·exact wpAny_pure (h _)
theorem kr_hvA:∀(ds:List PyData) (vs:List Value) (n:Nat) (A:Around) (s:Shared) (Q:Option Bool×PUnit->Shared->Prop),KReps s.heap ds vs->PyData.depthAll ds<=n->(∀p,Q p s) ->
  wpAny (model prog w) A (forIn vs ((none:Option Bool),PUnit.unit) λy r=>do
   if !(<-hashByValue n y) then pure (ForInStep.done (some false,PUnit.unit)) else pure (ForInStep.yield (none,PUnit.unit))) Q E s
 |[],_,n,A,s,Q,r,_,h=>by
  cases r;exact wpAny_pure (h _)
 |d::ds,_,n,A,s,Q,q,hn,h=>by
  cases q with|cons r rs=>
  rw[PyData.depthAll]at hn;rw[List.forIn_cons];refine wpAny_bind (wpAny_bind (zq5 d _ n A s _ r (by lia) λb=>?_))
  cases b with
  |true=>
   simp only[Bool.not_true,Bool.false_eq_true,if_false];exact wpAny_pure (kr_hvA ds _ n A s _ rs (by lia) h)
  |false=>
   simp only[Bool.not_false,if_true];exact wpAny_pure (wpAny_pure (h _))
end
end
def znj(h:Heap)(d:PyData)(a:Addr):Prop:=xb h d (.ref a)/\d.canLay0=true/\d.depth<=8
noncomputable local instance decD:DecidableEq PyData:=λa b=>Classical.propDecidable (a=b)
noncomputable def znk (prog:Program) (w:World):zng prog w PyData where
 is:=znj
 hash:=jy prog w
 draws:=zgg
 room:=λA=>A.units+8<cLine
 inj:=λhx hy=>zex _ _ _ hx.1 hy.1
 keeps:=λ{h h' k a d o es ep} x ho hd hs=>⟨vf (λb ob g c ⟨items,n,e⟩=>(hs.2 b (λz=>by
  rw[z,ho]at g
  cases g;rw[hd]at e
  cases e)).trans g) _ _ x.1,x.2⟩
 pyHash:=λ{A E s k a Q} hu hk h=>zjy k _ A s Q hk.1 (by have:=hk.2.2;lia) h
 eqBool:=λ{A E s x y a b Q} hu hx hy h=>by
  obtain⟨as,ra⟩:=qb _ _ hx.1;obtain⟨bs,rb⟩:=qb _ _ hy.1;refine SeqAt.eqAt_reads x y A s _ _ as bs ra rb hx.2.1 hy.2.1 (by have:=hx.2.2;lia) prog w E Q ?_;have:=L2.eqv_iff x y (zgf _ _ hx.1) (zgf _ _ hy.1)
  by_cases z:x=y
  ·rw[this.mpr z];rw[decide_eq_true z]at h;exact h
  ·rw[Bool.eq_false_iff.mpr (λq=>z (this.mp q))];rw[decide_eq_false z]at h;exact h
 quiet:=λ{A E s k a Q} hk h=>zgh k _ 8 A s Q hk.1 hk.2.2 h
 pers:=λ{h h' k a} x y=>⟨vf (λb o g c _=>y b o g c) _ _ x.1,x.2⟩
 hv:=λ{A E s k a Q} hk q=>zq5 k _ 8 A s Q hk.1 hk.2.2 q
 stm:=λ{A E s k a Q} hk q=>zni k _ 8 A s Q hk.1 hk.2.2 q
end PySem
namespace PySem
open STB SV
theorem zp4{t:SetTable}(hd:t.dummies = #[])(f:Nat->Int)(h:Int){i0:Nat}(hf:f i0=h):∀(n:Nat) (p:SetTable.Probe) (fuel:Nat),(∀m,m<n->t.slot (adv t m p).j ≠ .empty)->t.slot (adv t n p).j=.live i0->n<fuel ->
  ∃j i m,m<=n/\SetTable.probe.go t f h fuel p=some (.candidate j i (adv t (m+1) p))/\t.slot j=.live i/\f i=h/\(m=n->i=i0):=by
 intro n
 induction n with
 |zero=>
  intro p fuel _ he hfu;obtain⟨g,rfl⟩:∃g,fuel=g+1:=⟨fuel-1,by lia⟩
  have e:t.slot p.j=.live i0:=he;refine⟨p.j,i0,0,Nat.le_refl _,?_,e,hf,λ_=>rfl⟩;unfold SetTable.probe.go;rw[e];dsimp only;rw[if_pos (by rw[hf];exact beq_self_eq_true h)];rfl
 |succ n ih=>
  intro p fuel hne he hfu;obtain⟨g,rfl⟩:∃g,fuel=g+1:=⟨fuel-1,by lia⟩
  unfold SetTable.probe.go
  cases e:t.slot p.j with
  |empty=>exact absurd e (hne 0 (Nat.succ_pos _))
  |dummy=>exact absurd e (zev hd _)
  |live i=>
   dsimp only
   by_cases c:(f i == h)=true
   ·rw[if_pos c];exact⟨p.j,i,0,Nat.zero_le _,rfl,e,eq_of_beq c,λz=>by lia⟩
   ·rw[if_neg c];obtain⟨j,i',m,h1,h2,h3,h4,h5⟩:=ih (t.advance p) g (λm hm=>hne (m+1) (by (clear hf hfu;lia))) he (by lia);exact⟨j,i',m+1,by (clear hf hfu h4;lia),h2,h3,h4,λz=>h5 (by (clear hf hfu h4;lia))⟩
end PySem
namespace PySem
open STB SV
theorem zcd{t t':SetTable}(h:t.mask=t'.mask):∀(n:Nat) (p:SetTable.Probe),adv t n p=adv t' n p
 |0,_=>rfl
 |n+1,p=>by
  show adv t n (t.advance p)=adv t' n (t'.advance p);have e:t.advance p=t'.advance p:=by unfold SetTable.advance;rw[h]
  rw[e];exact zcd h n _
theorem zce{t t':SetTable}(h:t.mask=t'.mask)(x:Int):t.probeStart x=t'.probeStart x:=by unfold SetTable.probeStart;rw[h]
theorem zbb{t:SetTable}(r:Ris t.place){j:Nat}(h:j∈t.place.toList):∃i,t.slot j=.live i:=by
 refine Classical.byContradiction λc=>?_;exact(zga λi z=>c ⟨i,z⟩).nmem r h
theorem zgi{t:SetTable}(hd:t.dummies = #[]){j:Nat}(h:t.slot j ≠ .empty):j∈t.place.toList:=by
 cases e:t.slot j with
 |empty=>exact absurd e h
 |dummy=>exact absurd e (zev hd _)
 |live i=>exact Array.mem_toList_iff.mpr (Array.mem_of_getElem? (zew e))
theorem znl{t:SetTable}:∀(d:Nat) (p:SetTable.Probe),d<=p.more->(adv t d p).j=p.j+d
 |0,_,_=>rfl
 |d+1,p,h=>by
  have e:t.advance p = { p with j:=p.j+1,more:=p.more-1 }:=by
   unfold SetTable.advance;rw[if_pos (by lia)]
  show(adv t d (t.advance p)).j=_;rw[e,znl d _ (by show d<=p.more-1;lia)];show p.j+1+d=_;lia
theorem znm{t:SetTable}{owner:Array (Option Nat)}(hs:owner.size=t.mask+1):∀(fuel i p j:Nat),i<=t.mask->SetTable.layClean.free t.mask owner fuel i p=some j ->
  ∃n,n<10 * fuel/\(∀m,m<n->∃k,owner.getD (adv t m (lst t (i,p))).j none=some k)/\(adv t n (lst t (i,p))).j=j:=by
 intro fuel
 induction fuel with
 |zero=>intro i p j _ h;unfold SetTable.layClean.free at h;cases h
 |succ f ih=>
  intro i p j hi h;have hrun:i<=SetTable.runEnd t.mask i/\SetTable.runEnd t.mask i<=t.mask/\SetTable.runEnd t.mask i-i<=9:=by
   unfold SetTable.runEnd;split <;> lia
  have tk:∀d,d<=SetTable.runEnd t.mask i-i->(owner.getD (i+d) (some 0)).isNone=false->∃k,owner.getD (adv t d (lst t (i,p))).j none=some k:=λd hd hn=>by
   have e1:(adv t d (lst t (i,p))).j=i+d:=znl d _ hd;rw[e1];simp only[Array.getD_eq_getD_getElem?]at hn ⊢;rw[Array.getElem?_eq_getElem (by lia)]at hn ⊢
   cases e:owner[i+d] with
   |none=>rw[e]at hn;cases hn
   |some k=>exact⟨k,rfl⟩
  unfold SetTable.layClean.free at h
  cases e:(List.range (SetTable.runEnd t.mask i+1-i)).find? (λk=>(owner.getD (i+k) (some 0)).isNone) with
  |some d=>
   rw[e]at h;dsimp only at h
   cases h;obtain⟨_,h2,h3⟩:=List.find?_range_eq_some.mp e;have hd:=List.mem_range.mp h2;exact⟨d,by (clear hs;omega),λm hm=>tk m (by omega) (by simpa using h3 m hm),znl d _ (by show d<=SetTable.runEnd t.mask i-i;(clear hs;omega))⟩
  |none=>
   rw[e]at h;dsimp only at h;have h1:=List.find?_eq_none.mp e;obtain⟨n,hn1,hn2,hn3⟩:=ih _ _ _ (zjv t.mask i p) h;have ar:adv t (SetTable.runEnd t.mask i-i+1) (lst t (i,p))=lst t (SetTable.leap t.mask i p):=zbw _ _ rfl rfl;refine⟨SetTable.runEnd t.mask i-i+1+n,by (clear hs hn3;lia),λm hm=>?_,by rw[wa,ar];exact hn3⟩
   by_cases c:m<=SetTable.runEnd t.mask i-i
   ·exact tk m c (Bool.eq_false_iff.mpr (h1 m (List.mem_range.mpr (by (clear hs hn1 hn3 hm;omega)))))
   ·rw[show m=SetTable.runEnd t.mask i-i+1+(m-(SetTable.runEnd t.mask i-i+1)) by (clear hs hi hrun hn1 hn3 hm;omega),wa,ar];exact hn2 _ (by (clear hs hi hrun hn1 hn3;omega))
def znn(t:SetTable)(owner:Array (Option Nat))(hs:List Int):Prop:=∀j k,owner.getD j none=some k->∃h,hs[k]?=some h/\∃n,n<10 * SetTable.turns t.mask/\(∀m,m<n->∃k',owner.getD (adv t m (t.probeStart h)).j none=some k')/\(adv t n (t.probeStart h)).j=j
theorem zcf{α β:Type}(f:Option α->β->Option α)(hf:∀b,f none b=none):∀l:List β,List.foldl f none l=none
 |[]=>rfl
 |b::l=>by rw[List.foldl_cons,hf,zcf f hf l]
theorem zgj{t:SetTable}:∀(hs done:List Int) (owner:Array (Option Nat)) (o:Array (Option Nat)) (k:Nat),owner.size=t.mask+1->znn t owner done ->
  List.foldl (λacc h=>(do
   let (owner,k) <-acc
   let j <-SetTable.layClean.free t.mask owner (SetTable.turns t.mask) (SetTable.bits h % (t.mask+1)) (SetTable.bits h)
   pure (owner.setIfInBounds j (some k),k+1):Option (Array (Option Nat)×Nat))) (some (owner,done.length)) hs=some (o,k)->znn t o (done++hs)/\o.size=t.mask+1
 |[],done,owner,o,k,hz,ok,e=>by cases e;rw[List.append_nil];exact⟨ok,hz⟩
 |h::hs,done,owner,o,k,hz,ok,e=>by
  rw[List.foldl_cons]at e;dsimp only[Option.bind_eq_bind,Option.bind_some,bind]at e
  cases ef:SetTable.layClean.free t.mask owner (SetTable.turns t.mask) (SetTable.bits h % (t.mask+1)) (SetTable.bits h) with
  |none=>
   rw[ef]at e;dsimp only[Option.bind]at e;rw[zcf _ (λ_=>rfl)]at e
   cases e
  |some j=>
   rw[ef]at e;dsimp only[Option.bind_some,pure]at e;have hi:SetTable.bits h % (t.mask+1)<=t.mask:=Nat.le_of_lt_succ (Nat.mod_lt _ (Nat.succ_pos _));obtain⟨n,hn1,hn2,hn3⟩:=znm hz _ _ _ _ hi ef;have mono:∀x k',owner.getD x none=some k'->∃k'',(owner.setIfInBounds j (some done.length)).getD x none=some k'':=λx k' q=>by
    simp only[Array.getD_eq_getD_getElem?]at q ⊢
    by_cases c:x=j
    ·subst c
     have hx:x<owner.size:=by
      refine Classical.byContradiction λc=>?_;rw[Array.getElem?_eq_none (by (clear hi hn1 hn3;lia))]at q
      cases q
     rw[Array.getElem?_setIfInBounds_self_of_lt hx];exact⟨_,rfl⟩
    ·rw[Array.getElem?_setIfInBounds_ne (Ne.symm c)];exact⟨_,q⟩
   have ok2:znn t (owner.setIfInBounds j (some done.length)) (done ++ [h]):=λx k' q=>by
    by_cases c:x=j
    ·subst c
     have hx:x<owner.size:=by
      refine Classical.byContradiction λc=>?_;simp only[Array.getD_eq_getD_getElem?]at q;rw[Array.getElem?_eq_none (by rw[Array.size_setIfInBounds];lia)]at q
      cases q
     simp only[Array.getD_eq_getD_getElem?]at q;rw[Array.getElem?_setIfInBounds_self_of_lt hx]at q
     cases q;refine⟨h,by rw[List.getElem?_append_right (Nat.le_refl _),Nat.sub_self];rfl,n,hn1,λm hm=>?_,hn3⟩;obtain⟨k2,e2⟩:=hn2 m hm;exact mono _ _ e2
    ·have q0:owner.getD x none=some k':=by
      simp only[Array.getD_eq_getD_getElem?]at q ⊢;rw[Array.getElem?_setIfInBounds_ne (Ne.symm c)]at q;exact q
     obtain⟨h',e1,n',a1,a2,a3⟩:=ok x k' q0;have hk:k' < done.length:=(List.getElem?_eq_some_iff.mp e1).1;refine⟨h',by rw[List.getElem?_append_left hk];exact e1,n',a1,λm hm=>?_,a3⟩;obtain⟨k2,e2⟩:=a2 m hm;exact mono _ _ e2
   have:=zgj hs (done ++ [h]) _ o k (by rw[Array.size_setIfInBounds];exact hz) ok2 (by rw[List.length_append];exact e);rw[List.append_assoc]at this;exact this
def Fd(t:SetTable)(h:Int)(j:Nat):Prop:=∃n,n<10 * SetTable.turns t.mask/\(∀m,m<n->(adv t m (t.probeStart h)).j∈t.place.toList)/\(adv t n (t.probeStart h)).j=j
def zdy(t:SetTable)(es:Array (Int×Value)):Prop:=∀p∈List.zip t.place.toList es.toList,Fd t p.2.1 p.1
theorem Fd.mono{t t':SetTable}{h:Int}{j:Nat}(hm:t.mask=t'.mask)(hp:∀x∈t.place.toList,x∈t'.place.toList)(f:Fd t h j):Fd t' h j:=by
 obtain⟨n,h1,h2,h3⟩:=f;rw[hm]at h1;refine⟨n,h1,λm hh=>?_,?_⟩
 ·rw[<-zcd hm,<-zce hm];exact hp _ (h2 m hh)
 ·rw[<-zcd hm,<-zce hm];exact h3
theorem zp5{α β:Type}{a:List α}{b:List β}(hl:a.length=b.length)(p:Nat)(x:α)(y:β){q:α×β}(h:q∈List.zip (a.take p++x::a.drop p) (b.take p++y::b.drop p)):q∈List.zip a b\/q=(x,y):=by
 rw[List.zip_append (by rw[List.length_take,List.length_take,hl]),List.zip_cons_cons]at h;rcases List.mem_append.mp h with h|h
 ·left;have:List.zip (a.take p) (b.take p)=(List.zip a b).take p:=by simp only[List.zip_eq_zipWith,List.take_zipWith]
  rw[this]at h;exact List.mem_of_mem_take h
 ·rcases List.mem_cons.mp h with h|h
  ·exact .inr h
  ·left;have:List.zip (a.drop p) (b.drop p)=(List.zip a b).drop p:=by simp only[List.zip_eq_zipWith,List.drop_zipWith]
   rw[this]at h;exact List.mem_of_mem_drop h
theorem zte{t t1:SetTable}{es:Array (Int×Value)}{j p:Nat}{e:Int×Value}(hp:p<=t.place.size)(hz:t.place.size=es.size)(hm:t.mask=t1.mask)(hpl:t1.place=SetTable.insertAt t.place p j)(F:zdy t es)(f:Fd t e.1 j):zdy t1 (SetTable.insertAt es p e):=by
 have hsub:∀x∈t.place.toList,x∈t1.place.toList:=λx hx=>by
  rw[hpl,xm _ _ _ hp];rw[<-List.take_append_drop p t.place.toList]at hx;rcases List.mem_append.mp hx with hx|hx
  ·exact List.mem_append_left _ hx
  ·exact List.mem_append_right _ (List.mem_cons_of_mem _ hx)
 intro q hq;rw[hpl,xm _ _ _ hp,xm _ _ _ (by lia)]at hq;rcases zp5 (by rw[Array.length_toList,Array.length_toList,hz]) p j e hq with h|h
 ·exact(F q h).mono hm hsub
 ·subst h;exact f.mono hm hsub
theorem zno{es:Array (Int×Value)}:∀(l:List (Nat×Nat)),(∀q∈l,q.2<es.size)->∀p∈List.zip (l.map (·.1)) ((l.map (·.2)).filterMap (es[·]?)),∃q∈l,∃e,es[q.2]?=some e/\p=(q.1,e)
 |[],_,p,h=>by cases h
 |a::l,hl,p,h=>by
  have ha:=hl a List.mem_cons_self;have e:es[a.2]?=some es[a.2]:=by simp[ha]
  rw[List.map_cons,List.map_cons,List.filterMap_cons,e]at h;dsimp only at h;rw[List.zip_cons_cons]at h;rcases List.mem_cons.mp h with h|h
  ·exact⟨a,List.mem_cons_self,_,e,h⟩
  ·obtain⟨q,h1,h2⟩:=zno l (λq hq=>hl q (List.mem_cons_of_mem _ hq)) p h;exact⟨q,List.mem_cons_of_mem _ h1,h2⟩
theorem zp6{m f mv:Nat}{led pl:Bool}{es:Array (Int×Value)}{t':SetTable}{order:Array Nat}(e:SetTable.laid m f mv led pl (es.map (·.1))=some (t',order))(ho:order.toList.Perm (List.range es.size)):zdy t' (order.filterMap (es[·]?)):=by
 unfold SetTable.laid at e
 cases eo:SetTable.layClean m (es.map (·.1)) with
 |none=>rw[eo]at e;cases e
 |some o=>
  rw[eo]at e;have e:=Option.some.inj e;generalize hL:((List.range (m+1)).filterMap λj=>(o.getD j none).map (j,·))=L at e;have et:=(congrArg Prod.fst e).symm;have eq:=(congrArg Prod.snd e).symm;dsimp only at et eq;have e1:t'.place.toList=L.map (·.1):=by rw[et]
  have e2:order.toList=L.map (·.2):=by rw[eq]
  have e3:t'.mask=m:=by rw[et]
  have hL2:∀q∈L,o.getD q.1 none=some q.2:=λq hq=>by
   rw[<-hL]at hq;obtain⟨j,_,hj⟩:=List.mem_filterMap.mp hq
   cases ej:o.getD j none with
   |none=>rw[ej]at hj;cases hj
   |some k=>rw[ej]at hj;cases hj;exact ej
  have hL3:∀j k,j<=m->o.getD j none=some k->j∈t'.place.toList:=λj k hj hk=>by
   rw[e1,<-hL];refine List.mem_map.mpr ⟨(j,k),List.mem_filterMap.mpr ⟨j,List.mem_range.mpr (by lia),by rw[hk];rfl⟩,rfl⟩
  unfold SetTable.layClean at eo;rw[<-Array.foldl_toList]at eo
  cases ef:List.foldl (λacc h=>(do
   let (owner,k) <-acc
   let j <-SetTable.layClean.free m owner (SetTable.turns m) (SetTable.bits h % (m+1)) (SetTable.bits h)
   pure (owner.setIfInBounds j (some k),k+1):Option (Array (Option Nat)×Nat))) (some (Array.replicate (m+1) none,0)) (es.map (·.1)).toList with
  |none=>rw[ef]at eo;cases eo
  |some r=>
   rw[ef]at eo
   cases eo;rw[<-e3]at ef;obtain⟨ok,hz⟩:=zgj (t:=t') (es.map (·.1)).toList [] (Array.replicate (t'.mask+1) none) r.1 r.2 Array.size_replicate (λj k q=>by
    simp only[Array.getD_eq_getD_getElem?,Array.getElem?_replicate]at q
    split at q <;> cases q) ef
   rw[List.nil_append]at ok;intro p hp;have e4:(order.filterMap (es[·]?)).toList=order.toList.filterMap (es[·]?):=Array.toList_filterMap;rw[e4,e1,e2]at hp;obtain⟨q,hq,x,hx,rfl⟩:=zno L (λq hq=>by
    have:q.2∈order.toList:=by rw[e2];exact List.mem_map.mpr ⟨q,hq,rfl⟩
    exact List.mem_range.mp (ho.mem_iff.mp this)) p hp
   obtain⟨h,a1,n,a2,a3,a4⟩:=ok q.1 q.2 (hL2 q hq);have eh:h=x.1:=by
    have:(es.map (·.1)).toList[q.2]?=some x.1:=by
     rw[Array.toList_map,List.getElem?_map,Array.getElem?_toList,hx];rfl
    rw[this]at a1;exact(Option.some.inj a1).symm
   subst eh;refine⟨n,a2,λi hi=>?_,a4⟩;show(adv t' i (t'.probeStart x.1)).j∈t'.place.toList;obtain⟨k,hk⟩:=a3 i hi;refine hL3 _ k ?_ hk;refine Classical.byContradiction λc=>?_;simp only[Array.getD_eq_getD_getElem?]at hk;rw[Array.getElem?_eq_none (by (clear a2 a4 hi;lia))]at hk
   cases hk
end PySem
namespace PySem
open STB SV
theorem znp{t:SetTable}(hd:t.dummies = #[])(f:Nat->Int)(h:Int):∀(n:Nat) (p:SetTable.Probe) (fuel:Nat),p.dummy=none->(∀m,m<n->t.slot (adv t m p).j ≠ .empty)->t.slot (adv t n p).j=.empty->n<fuel ->
  SetTable.probe.go t f h fuel p=some (.empty (adv t n p).j none)\/∃j i m,m<n/\SetTable.probe.go t f h fuel p=some (.candidate j i (adv t (m+1) p))/\t.slot j=.live i:=by
 intro n
 induction n with
 |zero=>
  intro p fuel dn _ he hf;obtain⟨g,rfl⟩:∃g,fuel=g+1:=⟨fuel-1,by lia⟩
  left;unfold SetTable.probe.go;rw[show t.slot p.j=.empty from he];dsimp only;rw[dn];rfl
 |succ n ih=>
  intro p fuel dn hne he hf;obtain⟨g,rfl⟩:∃g,fuel=g+1:=⟨fuel-1,by lia⟩
  unfold SetTable.probe.go
  cases e:t.slot p.j with
  |empty=>exact absurd e (hne 0 (Nat.succ_pos _))
  |dummy=>exact absurd e (zev hd _)
  |live i=>
   dsimp only
   by_cases c:(f i == h)=true
   ·rw[if_pos c];exact .inr ⟨p.j,i,0,by (clear hf;lia),rfl,e⟩
   ·rw[if_neg c];rcases ih (t.advance p) g ((zdv t p).trans dn) (λm hm=>hne (m+1) (by lia)) he (by lia) with h1 |⟨j,i',m,h1,h2,h3⟩
    ·exact .inl h1
    ·exact .inr ⟨j,i',m+1,by lia,h2,h3⟩
section
variable {prog:Program}{w:World}{K:Type}[DecidableEq K](knd:zng prog w K)
variable {A:Around}{E:Value->Shared->Prop}{s:Shared}
theorem zbc{a:Addr}{o:Obj}{es:Array (Int×Value)}{ep:Nat}{t:SetTable}{k:K}{x:Addr}{h:Int}{Q:SetFound->Shared->Prop}(hA:knd.room A)
  (ho:s.heap.get? a=some o) (hd:o.data=.set es ep t) (T:TabI w t es.size) (hx:knd.is s.heap k x) (hs:∀e∈es.toList,∃k' b,e.2=.ref b/\knd.is s.heap k' b)
  {g:Nat}{st:Option SetTable.Probe}{p:SetTable.Probe} (hst:st.getD (t.probeStart h)=p)
  (hq:(∃j,t.probe (W.hashAt es) h p=some (.empty j none)/\Q (.free j false) s) \/
   ∃j i nx,t.probe (W.hashAt es) h p=some (.candidate j i nx)/\t.slot j=.live i/\∀k' b,es[i]?.map (·.2)=some (.ref b)->knd.is s.heap k' b->(k'=k->Q (.there none) s)/\(k'≠k->wpAny (model prog w) A (setSearchFrom a (.ref x) h true g (some nx)) Q E s)) :
  wpAny (model prog w) A (setSearchFrom a (.ref x) h true (g+1) st) Q E s:=by
 have gw:t.gaveWay=false:=by
  unfold SetTable.gaveWay;rcases T.m with e|e|e|e <;> rw[e] <;> rfl
 unfold setSearchFrom;refine wpAny_bind (wpAny_setState_of ho hd T.fits ?_);dsimp only;rw[gw,hst];simp only[Bool.false_eq_true,if_false]
 split
 ·next met hmet=>
  have hmet':t.probe (W.hashAt es) h p=some met:=hmet;rcases hq with⟨j,ej,qq⟩ |⟨j,i,nx,ej,hl,qq⟩
  ·rw[ej]at hmet'
   cases hmet';exact wpAny_pure qq
  ·rw[ej]at hmet'
   cases hmet';have hpl:=zew hl;have hi:i<es.size:=by rw[<-T.p];exact(Array.getElem?_eq_some_iff.mp hpl).1
   have hei:es[i]?=some es[i]:=by simp[hi]
   obtain⟨k',b,eb,hb⟩:=hs es[i] (Array.getElem_mem_toList hi);obtain⟨q1,q2⟩:=qq k' b (by rw[hei,Option.map_some,eb]) hb;have tail:wpAny (model prog w) A (do
     let some (_,y):=es[i]?|unsupported "internal:set-entry"
     let equal <-holding [y] (eqBool y (.ref x))
     let (es',_,t') <-setState a
     if true && equal then return .there none
     let some same:=t'.sameMemory t.moves t.mask|unsupported "set.changed-during-lookup:is-the-new-block-at-the-old-address"
     let still <-match (if same then t'.slot j else .empty) with
      |.live i'=>match es'[i']? with
       |some (_,y')=>do pure (if <-isSame y' y then some i' else none)
       |none=>pure none
      |_=>pure none
     match still with
     |none=>rule "set.search.anew";setSearchFrom a (.ref x) h true g none
     |some i'=>if equal then return .there (some i') else setSearchFrom a (.ref x) h true g (some nx)) Q E s:=by
    rw[hei];dsimp only;rw[eb];refine wpAny_bind (wpAny_holding (knd.eqBool hA hb hx ?_));refine wpAny_bind (wpAny_setState_of ho hd T.fits ?_)
    by_cases z:k'=k
    ·rw[decide_eq_true z];simp only[Bool.and_self,if_true];exact wpAny_pure (q1 z)
    ·rw[decide_eq_false z];simp only[Bool.and_false,Bool.false_eq_true,if_false];rw[show t.sameMemory t.moves t.mask=some true by unfold SetTable.sameMemory;simp];dsimp only;rw[if_pos rfl,hl];dsimp only;rw[hei];dsimp only;rw[eb];refine wpAny_bind (wpAny_isSame_ref_self ?_);rw[if_pos rfl];refine wpAny_bind (wpAny_pure ?_);exact q2 z
   dsimp only
   by_cases c:(!t.led)=true
   ·rw[if_pos c];refine wpAny_bind (zc4 knd hx _ (λy hy=>?_) ?_)
    ·obtain⟨e,he',rfl⟩:=List.mem_map.mp hy;have hm':e∈es.toList:=Array.mem_toList_iff.mpr (Array.mem_filter.mp (Array.mem_toList_iff.mp he')).1;exact hs e hm'
    ·simp only[Bool.false_eq_true,if_false];exact tail
   ·rw[if_neg c];exact tail
 ·next hnone=>
  have hn:t.probe (W.hashAt es) h p=none:=Option.eq_none_iff_forall_ne_some.mpr hnone;rcases hq with⟨j,ej,_⟩ |⟨j,i,nx,ej,_⟩ <;> rw[ej]at hn <;> cases hn
theorem zh8{a:Addr}{o:Obj}{es:Array (Int×Value)}{ep:Nat}{t:SetTable}{k:K}{x:Addr}{h:Int}{jE:Nat}{Q:SetFound->Shared->Prop}(hA:knd.room A)
  (ho:s.heap.get? a=some o) (hd:o.data=.set es ep t) (T:TabI w t es.size) (hx:knd.is s.heap k x) (hs:∀e∈es.toList,∃k' b,e.2=.ref b/\knd.is s.heap k' b/\k'≠k) (q:Q (.free jE false) s) (he:t.slot jE=.empty) :
  ∀(n:Nat) (p:SetTable.Probe) (fuel:Nat) (st:Option SetTable.Probe),st.getD (t.probeStart h)=p->p.dummy=none->(∀m,m<n->t.slot (adv t m p).j ≠ .empty)->(adv t n p).j=jE->n<10 * SetTable.turns t.mask->n<fuel->wpAny (model prog w) A (setSearchFrom a (.ref x) h true fuel st) Q E s:=by
 intro n
 induction n using Nat.strongRecOn with
 |_ n ih=>
 intro p fuel st hst dn hne hj hn hf;obtain⟨g,rfl⟩:∃g,fuel=g+1:=⟨fuel-1,by (clear hn;lia)⟩
 refine zbc knd hA ho hd T hx (λe he=>let ⟨k',b,e1,e2,_⟩:=hs e he;⟨k',b,e1,e2⟩) hst ?_;unfold SetTable.probe;rcases znp T.d (W.hashAt es) h n p _ dn hne (by rw[hj];exact he) hn with e |⟨j,i,m,hm,e,hl⟩
 ·exact .inl ⟨_,e,by rw[hj];exact q⟩
 ·refine .inr ⟨j,i,_,e,hl,λk' b eb hb=>⟨λz=>?_,λ_=>?_⟩⟩
  ·obtain⟨e0,h0,h1⟩:=Option.map_eq_some_iff.mp eb;obtain⟨k2,b2,f1,f2,f3⟩:=hs e0 (Array.mem_toList_iff.mpr (Array.mem_of_getElem? h0));rw[h1]at f1
   cases f1;exact absurd ((knd.inj f2 hb).trans z) f3
  ·refine ih (n-(m+1)) (by (clear hj hn hf;omega)) _ g _ rfl (znh _ dn) (λm' hm'=>?_) ?_ (by (clear hj hf;omega)) (by (clear hj hn;omega))
   ·rw[Option.getD_some,<-wa];exact hne _ (by (clear hj hn hf;omega))
   ·rw[Option.getD_some,<-wa,show m+1+(n-(m+1))=n by (clear hj hn hf;omega)];exact hj
theorem zh9{a:Addr}{o:Obj}{es:Array (Int×Value)}{ep:Nat}{t:SetTable}{k:K}{x:Addr}{h:Int}{i0:Nat}{b0:Addr}{Q:SetFound->Shared->Prop}(hA:knd.room A)
  (ho:s.heap.get? a=some o) (hd:o.data=.set es ep t) (T:TabI w t es.size) (hx:knd.is s.heap k x) (hs:∀e∈es.toList,∃k' b,e.2=.ref b/\knd.is s.heap k' b) (h0:es[i0]?=some (h,.ref b0)) (hb0:knd.is s.heap k b0) (q:Q (.there none) s) :
  ∀(n:Nat) (p:SetTable.Probe) (fuel:Nat) (st:Option SetTable.Probe),st.getD (t.probeStart h)=p->(∀m,m<n->t.slot (adv t m p).j ≠ .empty)->t.slot (adv t n p).j=.live i0->n<10 * SetTable.turns t.mask->n<fuel->wpAny (model prog w) A (setSearchFrom a (.ref x) h true fuel st) Q E s:=by
 intro n
 induction n using Nat.strongRecOn with
 |_ n ih=>
 intro p fuel st hst hne he hn hf;obtain⟨g,rfl⟩:∃g,fuel=g+1:=⟨fuel-1,by lia⟩
 refine zbc knd hA ho hd T hx hs hst ?_;have hF:W.hashAt es i0=h:=by
  unfold W.hashAt;rw[h0];rfl
 obtain⟨j,i,m,hm,e,hl,_,hi⟩:=zp4 T.d (W.hashAt es) h hF n p _ hne he hn;refine .inr ⟨j,i,_,e,hl,λk' b eb hb=>⟨λ_=>q,λz=>?_⟩⟩;have hmn:m<n:=Nat.lt_of_le_of_ne hm λy=>by
  rw[hi y,h0]at eb
  cases eb;exact z (knd.inj hb hb0)
 refine ih (n-(m+1)) (by omega) _ g _ rfl (λm' hm'=>?_) ?_ (by lia) (by (clear hn hF;lia))
 ·rw[Option.getD_some,<-wa];exact hne _ (by (clear hn hf hF;lia))
 ·rw[Option.getD_some,<-wa,show m+1+(n-(m+1))=n by lia];exact he
def Heap.SetSh(w:World)(hash:K->Int)(h:Heap)(a:Addr)(bs:List (K×Addr)):Prop :=
 ∃o es ep t,h.get? a=some o/\o.ExactSet/\o.data=.set es ep t/\es.toList.Perm (bs.map λp=>(hash p.1,Value.ref p.2))/\TabI w t es.size/\zdy t es
theorem znq{a:Addr}{o:Obj}{es:Array (Int×Value)}{ep:Nat}{t:SetTable}{m:Nat}{wanted:Nat}{Q:Unit->Shared->Prop}(ho:s.heap.get? a=some o)(hd:o.data=.set es ep t)(hf:t.fits es.size=true)
  (hm:OkM m) (hw:SetTable.sizeAbove wanted=m+1) (hn:es.size * 5<m * 3) (hl:t.led = !w.params.followText "set-order") (hz:es.size<scanBound)
  (q:∀es' t',es'.toList.Perm es.toList->TabI w t' es'.size->zdy t' es'->Q () { s with heap:=s.heap.update a (Obj.putSet es' t') }) :
  wpAny (model prog w) A (setRelay a wanted) Q E s:=by
 unfold setRelay;refine wpAny_bind (wpAny_setState_of ho hd hf ?_);dsimp only;rw[if_neg (by rw[hw];rcases hm with rfl|rfl|rfl|rfl <;> simp[sizeLine])];obtain⟨t',order,e1,e2,e3,e4,e5,e6,e7⟩:=zp3 (f:=t.finger) (mv:=t.movedTo (SetTable.sizeAbove wanted-1)) (led:=t.led) (pl:=t.plain) hm (es.map (·.1)) (by rw[Array.size_map];lia);have e0:t.relaid (es.map (·.1)) wanted=some (t',order):=by
  unfold SetTable.relaid;rw[hw,Nat.add_sub_cancel]at *;exact e1
 rw[Array.size_map]at e3 e7;have hp:=zh7 e7;have hsz:(order.filterMap (es[·]?)).size=es.size:=by rw[<-Array.length_toList,hp.length_eq,Array.length_toList]
 change wpAny _ _ (zq4 es (t.relaid (es.map (·.1)) wanted) >>= _) _ _ _
 rw[e0];unfold zq4;dsimp only;rw[hsz];simp only[bne_self_eq_false,Bool.false_eq_true,if_false];refine wpAny_bind (wpAny_pure ?_);have T:TabI w t' (order.filterMap (es[·]?)).size:=⟨by rw[e2];exact hm,e4,by rw[e3,hsz],(zm9 e1).1,by rw[hsz,e2];exact hn,by rw[e5];exact hl⟩
 exact wpAny_storeSet_of ho hd (q _ _ hp T (zp6 e1 e7)) (by rw[hsz];exact fits_of_scanBound hz)
theorem zia{a x:Addr}{bs:List (K×Addr)}{k:K}{Q:Bool->Shared->Prop}(hA:knd.room A)(hS:Heap.SetSh w knd.hash s.heap a bs)(hb:∀p∈bs,knd.is s.heap p.1 p.2)(hx:knd.is s.heap k x)(hl:bs.length<300)
  (q0:(∃p∈bs,p.1=k)->∀tk,s.toks<=tk->Q false { s with toks:=tk })
  (q1:(∀p∈bs,p.1≠k)->∀h' tk,s.toks<=tk->Heap.SameBut a s.heap h'->Heap.SetSh w knd.hash h' a (bs ++ [(k,x)])->Q true { s with heap:=h',toks:=tk }):wpAny (model prog w) A (setAdd a (.ref x)) Q E s:=by
 obtain⟨o,es,ep,t,ho,hex,hd,hp,T,F⟩:=hS;have hsz:=SetH.size knd hp;unfold setAdd;refine wpAny_holding (wpAny_bind (knd.pyHash hA hx ?_));unfold setAddHashed setAddHashedIn;refine wpAny_holding (wpAny_bind (wpAny_setState_of (s:={ s with toks:=s.toks+knd.draws k }) ho hd T.fits ?_));dsimp only;rw[show byScan (.ref x) es=false from rfl];simp only[Bool.false_eq_true,if_false];have hs:∀e∈es.toList,∃k' b,e.2=.ref b/\knd.is s.heap k' b:=λe he=>by
  obtain⟨p,hp',rfl⟩:=List.mem_map.mp (hp.mem_iff.mp he);exact⟨p.1,p.2,rfl,hb p hp'⟩
 have big:∀n,n<10 * SetTable.turns t.mask->n<100000:=λn hn1=>by
  have hm:=T.m;unfold SetTable.turns at hn1;rcases hm with e|e|e|e <;> rw[e]at hn1 <;> (clear hl hsz e;lia)
 unfold setSearch
 by_cases old:∃p∈bs,p.1=k
 ·obtain⟨⟨k',b0⟩,hpb,hk⟩:=id old;dsimp only at hk;subst hk;have hm:(knd.hash k',Value.ref b0)∈es.toList:=hp.mem_iff.mpr (List.mem_map.mpr ⟨_,hpb,rfl⟩);obtain⟨i0,hi0,he0⟩:=List.getElem_of_mem hm;rw[Array.length_toList]at hi0;have e0:es[i0]?=some (knd.hash k',Value.ref b0):=by rw[<-Array.getElem?_toList,List.getElem?_eq_getElem (by rw[Array.length_toList];exact hi0),he0]
  have hip:i0<t.place.size:=by rw[T.p];exact hi0
  have hz:(t.place[i0],(knd.hash k',Value.ref b0))∈List.zip t.place.toList es.toList:=by
   refine List.mem_iff_getElem?.mpr ⟨i0,?_⟩;rw[List.getElem?_zip_eq_some];exact⟨by simp[hip],by rw[Array.getElem?_toList];exact e0⟩
  obtain⟨n,hn1,hn2,hn3⟩:=F _ hz;dsimp only at hn2 hn3;have live:t.slot t.place[i0]=.live i0:=by
   obtain⟨i,hi⟩:=zbb T.r (Array.mem_toList_iff.mpr (Array.getElem_mem hip));have h1:=zew hi;have hlt:i<t.place.size:=(Array.getElem?_eq_some_iff.mp h1).1;have h2:t.place.getD i 0=t.place.getD i0 0:=by
    simp only[Array.getD,hlt,hip,dif_pos];exact(Array.getElem?_eq_some_iff.mp h1).2
   have:i=i0:=by
    rcases Nat.lt_trichotomy i i0 with c|c|c
    ·have:=T.r.lt c hip;(clear hl hsz hi0 hn1 hn3 hlt;omega)
    ·exact c
    ·have:=T.r.lt c hlt;(clear hl hsz hi0 hn1 hn3;omega)
   rw[hi,this]
  refine wpAny_bind (zh9 knd (s:={ s with toks:=s.toks+knd.draws k' }) hA ho hd T hx hs e0 (hb _ hpb) ?_ n _ 100000 none rfl (λm hm=>?_) (by rw[Option.getD_none,hn3];exact live) hn1 (big n hn1))
  ·exact wpAny_pure (q0 old _ (Nat.le_add_right _ _))
  ·rw[Option.getD_none];obtain⟨i,hi⟩:=zbb T.r (hn2 m hm);rw[hi];exact λz=>nomatch z
 have hk:∀p∈bs,p.1≠k:=λp hp' z=>old ⟨p,hp',z⟩;have sets:∀(b o':_),s.heap.get? b=some o'->o'.cls=.type "tuple" -> b≠a:=λb o' h1 h2 z=>by
  rw[z,ho]at h1
  cases h1;rw[hex.1]at h2;injection h2 with h2
  exact absurd h2 (by decide)
 have hs2:∀e∈es.toList,∃k' b,e.2=.ref b/\knd.is s.heap k' b/\k'≠k:=λe he=>by
  obtain⟨p,hp',rfl⟩:=List.mem_map.mp (hp.mem_iff.mp he);exact⟨p.1,p.2,rfl,hb p hp',hk p hp'⟩
 have h0:(t.probeStart (knd.hash k)).i<=t.mask:=Nat.le_of_lt_succ (Nat.mod_lt _ (Nat.succ_pos _));obtain⟨n1,hn1,hn2⟩:=T.way (p:=t.probeStart (knd.hash k)) rfl zne h0 (zjw _);obtain⟨n,hnn,he,hne⟩:∃n,n<=n1/\t.slot (adv t n (t.probeStart (knd.hash k))).j=.empty/\∀m,m<n->t.slot (adv t m (t.probeStart (knd.hash k))).j ≠ .empty:=by
  clear hn1
  induction n1 using Nat.strongRecOn with
  |_ n1 ih=>
   by_cases c:∃m,m<n1/\t.slot (adv t m (t.probeStart (knd.hash k))).j=.empty
   ·obtain⟨m,h1,h2⟩:=c;obtain⟨n,a1,a2⟩:=ih m h1 h2;exact⟨n,by (clear hl hsz h0;lia),a2⟩
   ·exact⟨n1,Nat.le_refl _,hn2,λm hm z=>c ⟨m,hm,z⟩⟩
 have hn1:n<10 * SetTable.turns t.mask:=by (clear hl hsz h0;lia)
 generalize hj:(adv t n (t.probeStart (knd.hash k))).j=j at he;refine wpAny_bind (zh8 knd (s:={ s with toks:=s.toks+knd.draws k }) hA ho hd T hx hs2 ?_ he n _ 100000 none rfl rfl hne hj hn1 (big n hn1));dsimp only;refine wpAny_bind (wpAny_setState_of (s:={ s with toks:=s.toks+knd.draws k }) ho hd T.fits ?_);dsimp only
 -- the table with one more
 have hnl:Not t.place j:=zga λi z=>by rw[he]at z;cases z
 have bel:=kv T.r j;have hple:SetTable.below t.place j<=t.place.size:=bel.le;have hput:(t.put j).1 = { t with place:=SetTable.insertAt t.place (SetTable.below t.place j) j }:=by
  unfold SetTable.put;dsimp only;rw[T.d,show SetTable.has #[] j=false by unfold SetTable.has;simp];rfl
 have hput2:(t.put j).2=SetTable.below t.place j:=rfl;have hps:(SetTable.insertAt t.place (SetTable.below t.place j) j).size=es.size+1:=by
  rw[<-Array.length_toList,xm _ _ _ hple,List.length_append,List.length_cons,List.length_take,List.length_drop,Array.length_toList];have:=T.p;(clear hl hsz h0 hnn hn1 hj;lia)
 have hes:(SetTable.insertAt es (SetTable.below t.place j) (knd.hash k,Value.ref x)).toList.Perm (es.toList ++ [(knd.hash k,Value.ref x)]):=by
  rw[xm _ _ _ (by rw[<-T.p];exact hple)];refine List.perm_middle.trans ?_;rw[List.take_append_drop];exact(List.perm_append_comm (l₁:=[(knd.hash k,Value.ref x)]) (l₂:=es.toList))
 have hess:(SetTable.insertAt es (SetTable.below t.place j) (knd.hash k,Value.ref x)).size=es.size+1:=by
  rw[<-Array.length_toList,hes.length_eq,List.length_append,Array.length_toList];rfl
 have hall:(SetTable.insertAt es (SetTable.below t.place j) (knd.hash k,Value.ref x)).toList.Perm ((bs ++ [(k,x)]).map λp=>(knd.hash p.1,Value.ref p.2)):=by
  rw[List.map_append];exact hes.trans (hp.append_right _)
 have hfd:∀t1:SetTable,t.mask=t1.mask->t1.place=SetTable.insertAt t.place (SetTable.below t.place j) j->zdy t1 (SetTable.insertAt es (SetTable.below t.place j) (knd.hash k,Value.ref x)):=λt1 z1 z2=>
  zte hple T.p z1 z2 F ⟨n,hn1,λm hm=>zgi T.d (hne m hm),hj⟩
 rw[hput,hput2];generalize hE:SetTable.insertAt es (SetTable.below t.place j) (knd.hash k,Value.ref x)=es1 at *;generalize hP:SetTable.insertAt t.place (SetTable.below t.place j) j=pl1 at *;have hris:Ris pl1:=by rw[<-hP];exact zpw T.r hnl
 have key:∀(t1:SetTable) (h1:t1.mask=t.mask) (h2:t1.dummies = #[]) (h3:t1.place=pl1) (h4:t1.led=t.led),wpAny (model prog w) A (do
   storeSet a es1 t1
   if !false && t1.tooFull then setRelay a (SetTable.grown (es.size+1))
   return true) Q E { s with toks:=s.toks+knd.draws k }:=λt1 h1 h2 h3 h4=>by
  have hle:es.size+1<=t1.mask:=by have hf5:=T.f;have hm5:=T.m;rw[h1];rcases hm5 with e|e|e|e <;> (clear hl hsz h0 hnn hn1 hj hple hput2 hess h1;lia)
  have hfit:t1.fits es1.size=true:=zjx (by rw[h3,hps,hess]) h2 (by rw[hess];exact hle);have hzs:es1.size<scanBound:=by rw[hess,hsz,show scanBound=4096 from rfl];(clear h0 hnn hn1 hj hple hput2 h1 hle;lia)
  refine wpAny_bind (wpAny_storeSet_of (s:={ s with toks:=s.toks+knd.draws k }) ho hd ?_ (fits_of_scanBound hzs));have hg:(s.heap.update a (Obj.putSet es1 t1)).get? a=some { o with data:=.set es1 (ep+1) t1 }:=by
   have:=Heap.get?_update_self (Obj.putSet es1 t1) ho (by rw[putSet_of es1 t1 hd];rfl);rw[putSet_of es1 t1 hd]at this;exact this
  have sb1:=Heap.SameBut.update s.heap a (Obj.putSet es1 t1)
  by_cases c:t1.tooFull=true
  ·rw[if_pos (by rw[c];rfl)];have c':=c;unfold SetTable.tooFull SetTable.fill at c';rw[h2,h3,hps,h1]at c';simp only[List.size_toArray,List.length_nil,Nat.add_zero,ge_iff_le,decide_eq_true_eq]at c'
   have hm3:∃m,OkM m/\SetTable.sizeAbove (SetTable.grown (es.size+1))=m+1/\(es.size+1) * 5<m * 3:=by
    have:=T.f;rcases T.m with e|e|e|e <;> rw[e]at c' this
    ·have z:es.size=4:=by (clear h0 hnn hn1 hj hple hput2 h1 hle;lia)
     rw[z];exact⟨31,.inr (.inl rfl),by decide +kernel,by decide⟩
    ·have z:es.size=18:=by (clear h0 hnn hn1 hj hple hput2 h1 hle;lia)
     rw[z];exact⟨127,.inr (.inr (.inl rfl)),by decide +kernel,by decide⟩
    ·have z:es.size=76:=by (clear h0 hnn hn1 hj hple hput2 h1 hle;lia)
     rw[z];exact⟨511,.inr (.inr (.inr rfl)),by decide +kernel,by decide⟩
    ·(clear h0 hnn hn1 hj hple hput2 h1 hle;lia)
   obtain⟨m,hm,hw,hlt⟩:=hm3;refine wpAny_bind (znq (s:={ s with heap:=s.heap.update a (Obj.putSet es1 t1),toks:=s.toks+knd.draws k }) hg rfl hfit hm hw (by rw[hess];exact hlt) (by rw[h4];exact T.l) hzs λes2 t2 hp2 T2 F2=>?_);refine wpAny_pure (q1 hk _ _ (Nat.le_add_right _ _) (sb1.trans (Heap.SameBut.update _ a _)) ⟨{ o with data:=.set es2 (ep+1+1) t2 },es2,ep+1+1,t2,?_,hex,rfl,hp2.trans hall,T2,F2⟩);have:=Heap.get?_update_self (Obj.putSet es2 t2) hg (by rw[putSet_of es2 t2 rfl];rfl);rw[putSet_of es2 t2 rfl]at this;exact this
  ·rw[if_neg (by simp[c])];refine wpAny_pure (q1 hk _ _ (Nat.le_add_right _ _) sb1 ⟨{ o with data:=.set es1 (ep+1) t1 },es1,ep+1,t1,hg,hex,rfl,hall,⟨by rw[h1];exact T.m,h2,by rw[h3,hps,hess],by rw[h3];exact hris,?_,by rw[h4];exact T.l⟩,hfd t1 h1.symm h3⟩)
   have c':¬ (t1.mask * 3<=(es.size+1) * 5):=by
    intro z;refine c ?_;unfold SetTable.tooFull SetTable.fill;rw[h2,h3,hps];simpa using z
   rw[hess];(clear hl hsz h0 hnn hn1 hj hple hput2 hess h1 hzs;lia)
 split
 ·refine wpAny_bind (knd.hv (s:={ s with toks:=s.toks+knd.draws k }) hx λb=>?_)
  cases b with
  |true=>exact key _ rfl T.d rfl rfl
  |false=>exact key _ rfl T.d rfl rfl
 ·refine wpAny_bind (wpAny_pure ?_);exact key _ rfl T.d rfl rfl
end
end PySem
namespace PySem
open STB SV SQ PyProof.Rows
mutual
inductive LtR:PyData->PyData->Bool->Prop
 |int (a c:Int):LtR (.int a) (.int c) (decide (a<c))
 |str (x y:Str):LtR (.str x) (.str y) (decide (x.cps.toList<y.cps.toList))
 |tup {ds es:List PyData}{b:Bool}:LtRs ds es b->LtR (.tuple ds) (.tuple es) b
inductive LtRs:List PyData->List PyData->Bool->Prop
 |nn:LtRs [] [] false
 |nc (e:PyData) (es:List PyData):LtRs [] (e::es) true
 |cn (d:PyData) (ds:List PyData):LtRs (d::ds) [] false
 |eq (d:PyData) {ds es:List PyData}{b:Bool}:LtRs ds es b->LtRs (d::ds) (d::es) b
 |ne {d e:PyData} (ds es:List PyData) {b:Bool}:d≠e->LtR d e b->LtRs (d::ds) (e::es) b
end
theorem LtRs.tail{d:PyData}{ds es:List PyData}{b:Bool}(h:LtRs (d::ds) (d::es) b):LtRs ds es b:=by
 cases h with
 |eq _ h=>exact h
 |ne _ _ n _=>exact absurd rfl n
theorem LtRs.head{d e:PyData}{ds es:List PyData}{b:Bool}(n:d≠e)(h:LtRs (d::ds) (e::es) b):LtR d e b:=by
 cases h with
 |eq _ h=>exact absurd rfl n
 |ne _ _ _ h=>exact h
section
variable {prog:Program}{w:World}{A:Around}{E:Value->Shared->Prop}{s:Shared}
theorem znr{d e:PyData}{u v:Value}{Q:Bool->Shared->Prop}(hx:xb s.heap d u)(hy:xb s.heap e v)(cx:d.canLay0=true)(cy:e.canLay0=true)(hu:A.units+d.depth<cLine)(h:∀b:Bool,(b=true↔d=e)->Q b s):wpAny (model prog w) A (eqBool u v) Q E s:=by
 obtain⟨as,ra⟩:=qb _ _ hx;obtain⟨bs,rb⟩:=qb _ _ hy;refine SeqAt.eqAt_reads d e A s _ _ as bs ra rb cx cy (Nat.lt_of_le_of_lt (Nat.add_le_add_left (Nat.min_le_left _ _) _) hu) prog w E Q ?_;exact h _ (L2.eqv_iff d e (zgf _ _ hx) (zgf _ _ hy))
end
section
open PySem.AutoSeq1 (wpAny_loadPart')
open PySem.MeetsSeq PySem.MeetsSeq2 PySem.MeetsSeq3
def zjz(n:Nat):Prop:=∀(d e:PyData) (b:Bool) (u v:Value) (prog:Program) (w:World) (A:Around) (E:Value->Shared->Prop) (s:Shared) (Q:Value->Shared->Prop),d.depth<=n->xb s.heap d u->xb s.heap e v->d.canLay0=true->e.canLay0=true->LtR d e b->A.units+n<cLine->Q (.bool b) s->wpAny (model prog w) A (richCompare .Lt u v) Q E s
theorem zc5{n:Nat}(ih:zjz n)(l b:Addr)(items items2:Array Value)(N N2:Nat)(dd dd2:Option Addr)(sl sl2:Array (Option Value))(ds es:List PyData)(bb:Bool)(hlt:LtRs ds es bb)(cd:PyData.canLayAll0 ds=true)(ce:PyData.canLayAll0 es=true)(hn:PyData.depthAll ds<=n):
  Meets (Builtin.«tuple.__lt__» ⟨[.ref l,.ref b],[]⟩)
   (λA R s=>s.heap.get? l=some { cls:=.type "tuple",dict:=dd,data:=.seq items N,slots:=sl }/\s.heap.get? b=some { cls:=.type "tuple",dict:=dd2,data:=.seq items2 N2,slots:=sl2 } /\
    KReps s.heap ds items.toList/\KReps s.heap es items2.toList/\A.units+1+n<cLine/\R (.ok (.ret (.bool bb))) s) :=
 .of_wp λprog w A R s h=>by
  obtain⟨hp,g,d,tk,os⟩:=s;obtain⟨hl,hb,k1,k2,hu,h⟩:=h;have f2:=AutoSeq1.sub_tuple_tuple;have lenR:∀{h:Heap}{ds:List PyData}{vs:List Value},KReps h ds vs->ds.length=vs.length:=λ{h ds vs} q=>by
   induction ds generalizing vs with
   |nil=>cases q;rfl
   |cons d ds ih=>cases q with|cons r t=>rw[List.length_cons,List.length_cons,ih t]
  have z1:items.size=ds.length:=by rw[lenR k1];simp
  have z2:items2.size=es.length:=by rw[lenR k2];simp
  wp_walk using wpAny_loadPart' hl,wpAny_loadPart' hb,wpAny_forIn_list _ (λrest b s'=>b.1=none/\s'=⟨hp,g,d,tk,os⟩/\∃(vs ws:List Value) (ds' es':List PyData),rest=vs.zip ws /\
   KReps hp ds' vs/\KReps hp es' ws/\ds'.length+items2.size=es'.length+items.size/\LtRs ds' es' bb/\PyData.canLayAll0 ds'=true/\PyData.canLayAll0 es'=true/\PyData.depthAll ds'<=n) _
  case turn=>
   rintro ⟨y,x⟩ rest b s' ⟨hb',rfl,vs,ws,ds',es',hz,hvi,hwi,hlen,hlt,c1,c2,hn⟩
   cases hvi with
   |nil=>rw[List.zip_nil_left]at hz;cases hz
   |@cons d1 ds1 v1 vs1 r1 t1=>
    cases hwi with
    |nil=>rw[List.zip_nil_right]at hz;cases hz
    |@cons e1 es1 w1 ws1 r2 t2=>
     rw[List.zip_cons_cons]at hz;injection hz with hyx hrest
     injection hyx with hy hx
     subst hy hx;simp only[List.length_cons]at hlen;simp only[PyData.canLayAll0,Bool.and_eq_true]at c1 c2;rw[PyData.depthAll]at hn;refine wpAny_bind (znr r1 r2 c1.1 c2.1 (by rw[Around.in1_units];(clear z1 z2 hlen;lia)) λeb hiff=>?_)
     by_cases z:d1=e1
     ·subst z
      cases (hiff.mpr rfl:eb=true)
      wp_walk
      exact⟨rfl,rfl,_,_,_,_,hrest,t1,t2,by (clear hu hn;lia),hlt.tail,c1.2,c2.2,by (clear hu z1 z2 hlen;lia)⟩
     ·have ef:eb=false:=Bool.eq_false_iff.mpr λq=>z (hiff.mp q);subst ef
      have hri:∀(E:Value->Shared->Prop) (Q:Value->Shared->Prop),Q (.bool bb) ⟨hp,g,d,tk,os⟩->wpAny (model prog w) A.in1 (richCompare .Lt y x) Q E ⟨hp,g,d,tk,os⟩:=λE Q q=>
       ih d1 e1 bb _ _ prog w A.in1 E _ Q (by (clear hu z1 z2 hlen;lia)) r1 r2 c1.1 c2.1 (hlt.head z) (by rw[Around.in1_units];omega) q
      wp_walk using hri
      exact⟨_,rfl,by simpa using h⟩
  case fin=>
   rintro ⟨b1,b2⟩ s' ⟨hb',rfl,vs,ws,ds',es',hz,hvi,hwi,hlen,hlt,c1,c2,hn⟩;simp only at hb';subst hb';have hv:bb=decide (items.size<items2.size):=by
    cases hvi with
    |nil=>
     cases hwi with
     |nil=>
      simp only[List.length_nil]at hlen
      cases hlt;exact(decide_eq_false (by lia)).symm
     |cons r t=>
      simp only[List.length_nil,List.length_cons]at hlen
      cases hlt;exact(decide_eq_true (by (clear hu hn;lia))).symm
    |cons r t=>
     cases hwi with
     |nil=>
      simp only[List.length_nil,List.length_cons]at hlen
      cases hlt;exact(decide_eq_false (by (clear hu hn;lia))).symm
     |cons r2 t2=>
      rw[List.zip_cons_cons]at hz
      cases hz
   rw[hv]at h
   wp_walk
   exact⟨_,rfl,by simpa[Builtin.Tuple.tupleCompareSizes]using h⟩
  case h=>
   exact⟨rfl,rfl,items.toList,items2.toList,ds,es,rfl,k1,k2,by (clear hn hu;lia),hlt,cd,ce,hn⟩
theorem zgk(n:Nat)(ih:∀m,n=m+1->zjz m):zjz n:=λd e b u v prog w A E s Q hn hx hy cx cy hlt hu q=>by
 cases hlt with
 |int a c=>cases hx;cases hy;exact HT.rcLt_int A s a _ c _ prog w E Q q
 |str x y=>cases hx;cases hy;exact(PyProof.Rows.lt_str q:wpAny (model prog w) A (compareOp .Lt (.str x _) (.str y _)) Q E s)
 |@tup ds es b hl=>
  cases n with
  |zero=>rw[PyData.depth]at hn;(clear hu;omega)
  |succ n=>
   rw[PyData.depth]at hn
   cases hx with|@tup a1 o1 _ i1 n1 g1 c1 e1 r1=>
   cases hy with|@tup a2 o2 _ i2 n2 g2 c2 e2 r2=>
   obtain⟨cls,dd,data,sl⟩:=o1;obtain⟨cls2,dd2,data2,sl2⟩:=o2;simp only at c1 e1 c2 e2;subst c1 e1 c2 e2;rw[PyData.canLay0]at cx cy;exact richCompare_meets_room (op:=.Lt) ⟨_,g1,rfl⟩ ⟨_,g2,rfl⟩ PySem.F.slot_tuple_lt PySem.F.entry_tuple_lt (PySem.F.args_tuple_lt_2 _ _) (zc5 (ih n rfl) a1 a2 i1 i2 n1 n2 dd dd2 sl sl2 ds es b hl cx cy (by (clear hu;lia)))
    ⟨g1,g2,r1,r2,by lia,show Value.bool b≠Value.notImplemented/\Q (.bool b) s from⟨(λx=>nomatch x),q⟩⟩ (by lia)
theorem zve(n:Nat):zjz n:=by
 induction n with
 |zero=>exact zgk 0 λm h=>by lia
 |succ n ih=>exact zgk _ λm h=>by cases h;exact ih
end
end PySem
namespace PySem
mutual
def qc:PyData->Bool
 |.int _=>true
 |.str _=>true
 |.tuple ds=>keyBs ds
 |_=>false
def keyBs:List PyData->Bool
 |[]=>true
 |d::ds=>qc d && keyBs ds
end
def KyD(d:PyData):Prop:=(∃ds,d=.tuple ds)/\qc d=true/\d.canLay0=true/\d.depth<=8
mutual
theorem zgl:∀(d:PyData) (b:Bool),LtR d d b->b=false
 |.int a,b,h=>by cases h;exact decide_eq_false (Int.lt_irrefl a)
 |.str x,b,h=>by cases h;exact decide_eq_false (List.lt_irrefl _)
 |.tuple ds,b,h=>by cases h with|tup h=>exact ltrs_self ds b h
 |.none,_,h=>nomatch h
 |.bool _,_,h=>nomatch h
 |.list _,_,h=>nomatch h
 |.dict _,_,h=>nomatch h
theorem ltrs_self:∀(ds:List PyData) (b:Bool),LtRs ds ds b->b=false
 |[],b,h=>by cases h;rfl
 |d::ds,b,h=>ltrs_self ds b h.tail
end
theorem zib{h:Heap}:∀{ds:List PyData}{vs:List Value},KReps h ds vs->ds.length=vs.length
 |[],_,q=>by cases q;rfl
 |d::ds,_,q=>by cases q with|cons r t=>rw[List.length_cons,List.length_cons,zib t]
end PySem
namespace SQ
open PySem PyProof.Rows STB SV
set_option autoImplicit false
structure SEnc{α:Type}(f:α->PyData)(enc:α->List Int):Prop where
 lt:∀x y,LtR (f x) (f y) (decide (enc x<enc y))
 inj:∀x y,enc x=enc y->x=y
 hd:∀x,∃i ds,f x=.tuple (.int i::ds)
 ky:∀x,KyD (f x)
theorem SEnc.finj{α:Type}{f:α->PyData}{enc:α->List Int}(S:SEnc f enc){x y:α}(e:f x=f y):x=y:=by
 have h1:=S.lt x y;have h2:=S.lt y x;rw[e]at h1 h2;have c1:=of_decide_eq_false (zgl _ _ h1);have c2:=of_decide_eq_false (zgl _ _ h2);exact S.inj _ _ (List.le_antisymm (List.not_lt.mp c2) (List.not_lt.mp c1))
section
variable {α:Type}{f:α->PyData}{enc:α->List Int}
open Classical in
noncomputable def zaw (f:α->PyData) (enc:α->List Int) (h:Heap) (v:Value):Option (List Int):=if x:∃x,xb h (f x) v then some (enc x.choose) else none
theorem zbd{h:Heap}{v:Value}{is:List Int}(e:zaw f enc h v=some is):∃x,xb h (f x) v/\is=enc x:=by
 unfold zaw at e
 split at e
 ·next x=>cases e;exact⟨_,x.choose_spec,rfl⟩
 ·cases e
theorem zax(S:SEnc f enc){h:Heap}{v:Value}{x:α}(r:xb h (f x) v):zaw f enc h v=some (enc x):=by
 unfold zaw;rw[dif_pos ⟨x,r⟩];rw[S.finj (zex _ _ _ (Exists.choose_spec (p:=λx=>xb h (f x) v) ⟨x,r⟩) r)]
@[reducible] noncomputable def zc6 (f:α->PyData) (enc:α->List Int) (h:Heap):KeyKind:={ zu9 h with keyOf:=λv=>zaw f enc h v }
section
variable {prog:Program}{w:World}{A:Around}{E:Value->Shared->Prop}{s:Shared}
theorem zns{f:Bool}(hu:A.units+9<cLine):∀{ds es:List PyData}{xs ys:List Value}{bb:Bool} (k:Nat) (Q:Option Bool×Unit->Shared->Prop),KReps s.heap ds xs->KReps s.heap es ys->LtRs ds es bb->PyData.canLayAll0 ds=true->PyData.canLayAll0 es=true->PyData.depthAll ds<=8 ->
  ((f && k == 0)=true->(∃i l,ds=.int i::l)/\∃i l,es=.int i::l)->(∀r,(r=none->bb=decide (ds.length<es.length))->(∀b,r=some b->b=bb)->Q (r,()) s) ->
  wpAny (model prog w) A (forIn ((xs.zip ys).zipIdx k) ((none,()):Option Bool×Unit) λx _=>match x with
   |((p,q),i)=>do
    let e <-eqBool p q
    if (!e)=true then do
     let r <-oneLt' (f && i == 0) p q
     pure (ForInStep.done (some r,()))
    else pure (ForInStep.yield (none,()))) Q E s:=by
 intro ds
 induction ds with
 |nil=>
  intro es xs ys bb k Q h1 h2 hl _ _ _ _ q
  cases h1;simp only[List.zip_nil_left,List.zipIdx_nil,List.forIn_nil];refine wpAny_pure (q none (λ_=>?_) (λb e=>by cases e))
  cases hl with
  |nn=>rfl
  |nc e es=>simp
 |cons d ds ih=>
  intro es xs ys bb k Q h1 h2 hl c1 c2 hn hf q
  cases h1 with|@cons _ _ v1 vs1 r1 t1=>
  cases es with
  |nil=>
   cases h2;simp only[List.zip_nil_right,List.zipIdx_nil,List.forIn_nil];refine wpAny_pure (q none (λ_=>?_) (λb e=>by cases e))
   cases hl;simp
  |cons e es=>
   cases h2 with|@cons _ _ v2 vs2 r2 t2=>
   simp only[List.zip_cons_cons,List.zipIdx_cons,List.forIn_cons];simp only[PyData.canLayAll0,Bool.and_eq_true]at c1 c2;rw[PyData.depthAll]at hn;refine wpAny_bind ?_;refine wpAny_bind (znr r1 r2 c1.1 c2.1 (by lia) λeb hiff=>?_)
   by_cases z:d=e
   ·subst z
    cases (hiff.mpr rfl:eb=true);rw[if_neg (by simp)];refine wpAny_pure (ih (k+1) Q t1 t2 hl.tail c1.2 c2.2 (by lia) (λz=>by simp at z) λr p1 p2=>q r (λe=>?_) p2);rw[p1 e];simp
   ·have ef:eb=false:=Bool.eq_false_iff.mpr λq=>z (hiff.mp q);subst ef;rw[if_pos (by simp)]
    have fin:wpAny (model prog w) A (oneLt' (f && k == 0) v1 v2) (λb s'=>b=bb/\s'=s) E s:=by
     by_cases c:(f && k == 0)=true
     ·obtain⟨⟨i,l,e1⟩,j,l2,e2⟩:=hf c
      cases e1
      cases e2;have hb:=hl.head z
      cases r1
      cases r2
      cases hb;exact zhz ⟨rfl,rfl⟩
     ·rw[Bool.eq_false_iff.mpr c,oneLt'_eq,if_neg (by decide)];exact wpAny_bind (zve 8 d e bb v1 v2 prog w A _ s _ (by lia) r1 r2 c1.1 c2.1 (hl.head z) (by lia) (wpAny_truthy_bool ⟨rfl,rfl⟩))
    refine wpAny_bind (wpAny_mono fin (λb s' hb=>?_) λ_ _ h=>h);obtain⟨rfl,rfl⟩:=hb;exact wpAny_pure (wpAny_pure (q _ (λz=>by cases z) λb z=>by cases z;rfl))
theorem zj0(S:SEnc f enc){ff:Bool}(hu:A.units+9<cLine){h₀:Heap}(k:∀b o,h₀.get? b=some o->s.heap.get? b=some o):vz prog w A s (zc6 f enc h₀) (tuples' ff):=λE x y a b Q ha hb q=>by
 obtain⟨x1,r1,rfl⟩:=zbd ha;obtain⟨y1,r2,rfl⟩:=zbd hb;have r1:=vf (λb o g _ _=>k b o g) _ _ r1;have r2:=vf (λb o g _ _=>k b o g) _ _ r2;have hl:=S.lt x1 y1;obtain⟨i1,d1,e1⟩:=S.hd x1;obtain⟨i2,d2,e2⟩:=S.hd y1;obtain⟨_,_,cl1,dp1⟩:=S.ky x1;obtain⟨_,_,cl2,_⟩:=S.ky y1;rw[e1]at r1 hl cl1 dp1;rw[e2]at r2 hl cl2
 cases r1 with|tup ga _ da t1=>
 cases r2 with|tup gb _ db t2=>
 cases hl with|tup hl=>
 rw[PyData.canLay0]at cl1 cl2;rw[PyData.depth]at dp1;refine wpAny_bind (listItems_at ga da (wpAny_bind (listItems_at gb db (wpAny_bind (zns hu 0 _ t1 t2 hl cl1 cl2 (by lia) (λ_=>⟨⟨_,_,rfl⟩,_,_,rfl⟩) λr p1 p2=>?_)))))
 cases r with
 |some d=>
  dsimp only
  cases p2 d rfl;exact wpAny_pure q
 |none=>
  dsimp only;refine wpAny_pure ?_;have:=p1 rfl;rw[zib t1,zib t2]at this;rw[show(zc6 f enc h₀).blt (enc x1) (enc y1)=_ from this]at q;simpa using q
theorem zp7{v:Value}{i:Int}{ds:List PyData}(h:xb s.heap (.tuple (.int i::ds)) v):∃t,∀Q:Option Value->Shared->Prop,Q (some (.int i t)) s->wpAny (model prog w) A (firstOfTuple' v) Q E s:=by
 cases h with|@tup a o _ its n g c d r=>
 obtain⟨t,rest,e⟩:∃t rest,its.toList=.int i t::rest:=by
  cases e:its.toList with
  |nil=>rw[e]at r;cases r
  |cons x l=>
   rw[e]at r
   cases r with
   |cons r t=>cases r;exact⟨_,l,rfl⟩
 refine⟨t,λQ q=>wpAny_bind (wpAny_typeOf (T := "tuple") ⟨o,g,c⟩ ?_)⟩;rw[if_neg (by decide)];refine wpAny_bind (listItems_at g d (wpAny_pure ?_));have:its[0]?=some (.int i t):=by rw[<-Array.getElem?_toList,e];rfl
 rw[this];exact q
theorem zgm(S:SEnc f enc):∀{vs:List Value},(∀v∈vs,∃x,xb s.heap (f x) v)->∃(fs:List Value) (ns:List Int),IntsAre fs ns/\fs.length=vs.length/\∀Q:List (Option Value)->Shared->Prop,Q (fs.map some) s->wpAny (model prog w) A (vs.mapM firstOfTuple') Q E s
 |[],_=>⟨[],[],.nil,rfl,λQ q=>by rw[List.mapM_nil];exact wpAny_pure q⟩
 |v::vs,h=>by
  obtain⟨fs,ns,i1,l1,w1⟩:=zgm S (vs:=vs) λx hx=>h x (List.mem_cons_of_mem _ hx);obtain⟨x,hv⟩:=h v List.mem_cons_self;obtain⟨i,ds,e⟩:=S.hd x;rw[e]at hv;obtain⟨t,w2⟩:=zp7 (prog:=prog) (w:=w) (A:=A) (E:=E) hv;refine⟨.int i t::fs,i::ns,.cons i t i1,by simp[l1],λQ q=>?_⟩;rw[List.mapM_cons];exact wpAny_bind (w2 _ (wpAny_bind (w1 _ (wpAny_pure q))))
theorem znt(S:SEnc f enc){vs:List Value}{Q:SortKind->Shared->Prop}(h:∀v∈vs,∃x,xb s.heap (f x) v)(h2:2<=vs.length)(q:Q (tuples' true) s):wpAny (model prog w) A (keyKind' vs.toArray) Q E s:=by
 obtain⟨fs,ns,i1,l1,w1⟩:=zgm (prog:=prog) (w:=w) (A:=A) (E:=E) S h;rw[keyKind'_eq,List.mapM_toArray];simp only[map_eq_pure_bind,bind_assoc,pure_bind];refine wpAny_bind (w1 _ ?_);rw[if_pos (by simp)];refine wpAny_bind (m:=rule _) (wpAny_rule ?_);have ef:Array.filterMap id (List.map some fs).toArray=fs.toArray:=by simp
 rw[ef,oneTypeOnly'_eq,List.mapM_toArray,mapM_typeOf_ints i1];simp only[map_pure,pure_bind]
 cases fs with
 |nil=>simp at l1;lia
 |cons f fs=>
  have hall:((List.map (λ_=>Value.type "int") (f::fs)).toArray.all λx=>x == Value.type "int")=true:=by
   simp only[List.all_toArray,List.all_map,List.all_eq_true];intro _ _;rfl
  have g0:(List.map (λ_=>Value.type "int") (f::fs)).toArray[0]?=some (Value.type "int"):=by simp
  rw[g0];simp only[hall,if_true,pure_bind];exact wpAny_pure q
end
end
end SQ
namespace L2
open PySem PySem.Spec PyProof.Rows
section
variable {prog:Program}{w:World}{A:Around}{R:Result->Shared->Prop}{s:Shared}{elt t1 i1 t2 i2:Expr}{f1 f2:List Expr}{scope:Scope}{pos:Pos}{it acc:Value}{env:Env}
abbrev SC2(elt t1 i1 t2 i2:Expr)(f1 f2:List Expr)(scope:Scope)(pos:Pos):Expr:=.SetComp elt [⟨t1,i1,f1,0⟩,⟨t2,i2,f2,0⟩] scope pos
theorem ztf(elt t1 i1 t2 i2:Expr)(f1 f2:List Expr)(scope:Scope)(pos:Pos)(it acc:Value)(env:Env):compTurn (SC2 elt t1 i1 t2 i2 f1 f2 scope pos) 0 it acc env=(do
  standAt i1.pos
  match <-pyNext it with
  |none=>pure (.done .next)
  |some v=>
   letOwnedTupleGo t1 it v
   assign t1 env v
   let mut ok:=true
   for c in f1 do
    if ok then ok <-isTrue c env (eval c env)
   if ok then
    let x <-eval i2 env
    standAt i2.pos
    let x <-foldedSetIterable i2 env x
    let _ <-runOwn (.compStart (SC2 elt t1 i1 t2 i2 f1 f2 scope pos) 1 (<-holding [x] (pyIter x)) acc env) env
   again (.compLoop (SC2 elt t1 i1 t2 i2 f1 f2 scope pos) 0 it acc env)):=by rfl
theorem ztg(elt t1 i1 t2 i2:Expr)(f1 f2:List Expr)(scope:Scope)(pos:Pos)(it acc:Value)(env:Env):compTurn (SC2 elt t1 i1 t2 i2 f1 f2 scope pos) 1 it acc env=(do
  standAt i2.pos
  match <-pyNext it with
  |none=>pure (.done .next)
  |some v=>
   letOwnedTupleGo t2 it v
   assign t2 env v
   let mut ok:=true
   for c in f2 do
    if ok then ok <-isTrue c env (eval c env)
   if ok then
    (do let v <-eval elt env;standAt elt.pos;let _ <-call (.builtin "set.add") [acc,v])
   again (.compLoop (SC2 elt t1 i1 t2 i2 f1 f2 scope pos) 1 it acc env)):=by rfl
theorem zic(I:Nat->Shared->Prop)
  (turn:∀n s,I n s->wpAny (model prog w) A (pyNext it) (λr s1=>match r with
   |none=>R (.ok .next) s1
   |some v=>wpAny (model prog w) A (letOwnedTupleGo t2 it v) (λ_ s1'=>wpAny (model prog w) A (assign t2 env v) (λ_ s2=>
     wpAny (model prog w) A (forIn f2 true λc r=>if r=true then do let ok <-isTrue c env (eval c env);pure (ForInStep.yield ok) else pure (ForInStep.yield r)) (λok s3=>
      if ok=true then wpAny (model prog w) A (eval elt env) (λx s4=>
       wpAny (model prog w) A (call (.builtin "set.add") [acc,x]) (λ_ s5=>∃m,m<n/\I m s5) (λ_ _=>False) s4) (λ_ _=>False) s3
      else ∃m,m<n/\I m s3) (λ_ _=>False) s2) (λ_ _=>False) s1') (λ_ _=>False) s1) (λ_ _=>False) s)
  (n:Nat) (h:I n s):codeAny (model prog w) A (.compLoop (SC2 elt t1 i1 t2 i2 f1 f2 scope pos) 1 it acc env) R s:=by
 refine codeAny_loop rfl I (λn s hI=>?_) n h;show wpAny _ A ((compTurn (SC2 elt t1 i1 t2 i2 f1 f2 scope pos) 1 it acc env).onRaise (λx=>do noteFrame x env;theTreesLotGoes x)) _ _ s;refine wpAny_noted ?_;rw[ztg];refine wpAny_bind (wpAny_standAt (wpAny_bind (wpAny_mono (turn n s hI) (λr s1 h1=>?_) λ_ _ h'=>h'.elim)))
 cases r with
 |none=>exact wpAny_pure h1
 |some v=>
  refine wpAny_bind (wpAny_mono h1 (λ_ s1' h1'=>?_) λ_ _ h'=>h'.elim);refine wpAny_bind (wpAny_mono h1' (λ_ s2 h2=>wpAny_bind (wpAny_mono h2 (λok s3 h3=>?_) λ_ _ h'=>h'.elim)) λ_ _ h'=>h'.elim)
  cases ok with
  |false=>exact wpAny_pure ⟨rfl,h3⟩
  |true=>exact wpAny_bind (wpAny_bind (wpAny_mono h3 (λx s4 h4=>wpAny_bind (wpAny_standAt (wpAny_bind (wpAny_mono h4 (λ_ s5 h5=>wpAny_pure (wpAny_pure ⟨rfl,h5⟩)) λ_ _ h'=>h'.elim)))) λ_ _ h'=>h'.elim))
theorem zp8(h0:codeAny (model prog w) A (.compLoop (SC2 elt t1 i1 t2 i2 f1 f2 scope pos) 1 it acc env) R s)
  (h:wpAny (model prog w) A (pyIter it) (λit' s'=>codeAny (model prog w) A (.compLoop (SC2 elt t1 i1 t2 i2 f1 f2 scope pos) 1 it' acc env) R s') (λ_ _=>False) s) :
  codeAny (model prog w) A (.compStart (SC2 elt t1 i1 t2 i2 f1 f2 scope pos) 1 it acc env) R s:=by
 refine codeAny_of_tree ?_;show wpAny _ _ ((compStart (SC2 elt t1 i1 t2 i2 f1 f2 scope pos) 1 it acc env).onRaise (λx=>do noteFrame x env;standAt theWindowsPlace)) _ _ s;refine wpAny_notedAt ?_;unfold compStart;show wpAny _ _ (ask >>= _) _ _ s;refine wpAny_bind (wpAny_askSetting (wpAny_ite ?_))
 split
 ·first
   |exact wpAny_bind (wpAny_pure (wpAny_pure (And.intro rfl h0)))
   |exact wpAny_pure (And.intro rfl h0)
 ·refine wpAny_bind (wpAny_rule ?_);show wpAny _ _ (standAt i2.pos >>= _) _ _ s;exact wpAny_bind (wpAny_standAt (wpAny_bind (wpAny_mono h (λit' s' h'=>wpAny_pure (And.intro rfl h')) λ_ _ x=>x.elim)))
theorem zid(I:Nat->Shared->Prop)(hs:∀x,foldedSetIterable i2 env x=pure x)
  (turn:∀n s,I n s->wpAny (model prog w) A (pyNext it) (λr s1=>match r with
   |none=>R (.ok .next) s1
   |some v=>wpAny (model prog w) A (letOwnedTupleGo t1 it v) (λ_ s1'=>wpAny (model prog w) A (assign t1 env v) (λ_ s2=>
     wpAny (model prog w) A (forIn f1 true λc r=>if r=true then do let ok <-isTrue c env (eval c env);pure (ForInStep.yield ok) else pure (ForInStep.yield r)) (λok s3=>
      if ok=true then wpAny (model prog w) A (eval i2 env) (λx s4=>wpAny (model prog w) A (pyIter x) (λit2 s5=>
       codeAny (model prog w) A (.compStart (SC2 elt t1 i1 t2 i2 f1 f2 scope pos) 1 it2 acc env) (λr s6=>match r with|.ok _=>∃m,m<n/\I m s6|.error _=>False) s5) (λ_ _=>False) s4) (λ_ _=>False) s3
      else ∃m,m<n/\I m s3) (λ_ _=>False) s2) (λ_ _=>False) s1') (λ_ _=>False) s1) (λ_ _=>False) s)
  (n:Nat) (h:I n s):codeAny (model prog w) A (.compLoop (SC2 elt t1 i1 t2 i2 f1 f2 scope pos) 0 it acc env) R s:=by
 refine codeAny_loop rfl I (λn s hI=>?_) n h;show wpAny _ A ((compTurn (SC2 elt t1 i1 t2 i2 f1 f2 scope pos) 0 it acc env).onRaise (λx=>do noteFrame x env;theTreesLotGoes x)) _ _ s;refine wpAny_noted ?_;rw[ztf];refine wpAny_bind (wpAny_standAt (wpAny_bind (wpAny_mono (turn n s hI) (λr s1 h1=>?_) λ_ _ h'=>h'.elim)))
 cases r with
 |none=>exact wpAny_pure h1
 |some v=>
  refine wpAny_bind (wpAny_mono h1 (λ_ s1' h1'=>?_) λ_ _ h'=>h'.elim);refine wpAny_bind (wpAny_mono h1' (λ_ s2 h2=>wpAny_bind (wpAny_mono h2 (λok s3 h3=>?_) λ_ _ h'=>h'.elim)) λ_ _ h'=>h'.elim)
  cases ok with
  |false=>exact wpAny_pure ⟨rfl,h3⟩
  |true=>
   refine wpAny_bind (wpAny_mono h3 (λx s4 h4=>?_) λ_ _ h'=>h'.elim);refine wpAny_bind (wpAny_standAt ?_);rw[hs x];refine wpAny_bind (wpAny_pure (wpAny_bind (wpAny_holding (wpAny_mono h4 (λit2 s5 h5=>?_) λ_ _ h'=>h'.elim))));refine wpAny_bind (wpAny_runOwn ?_);refine codeAny_mono h5 λr s6 h6=>?_
   cases r with
   |ok f=>exact wpAny_pure ⟨rfl,h6⟩
   |error e=>exact h6.elim
theorem zp9(h0:codeAny (model prog w) A (.compLoop (SC2 elt t1 i1 t2 i2 f1 f2 scope pos) 0 it acc env) R s)
  (h:wpAny (model prog w) A (pyIter it) (λit' s'=>codeAny (model prog w) A (.compLoop (SC2 elt t1 i1 t2 i2 f1 f2 scope pos) 0 it' acc env) R s') (λ_ _=>False) s) :
  codeAny (model prog w) A (.compStart (SC2 elt t1 i1 t2 i2 f1 f2 scope pos) 0 it acc env) R s:=by
 refine codeAny_of_tree ?_;show wpAny _ _ ((compStart (SC2 elt t1 i1 t2 i2 f1 f2 scope pos) 0 it acc env).onRaise (λx=>do noteFrame x env;standAt theWindowsPlace)) _ _ s;refine wpAny_notedAt ?_;unfold compStart;show wpAny _ _ (ask >>= _) _ _ s;refine wpAny_bind (wpAny_askSetting (wpAny_ite ?_))
 split
 ·first
   |exact wpAny_bind (wpAny_pure (wpAny_pure (And.intro rfl h0)))
   |exact wpAny_pure (And.intro rfl h0)
 ·refine wpAny_bind (wpAny_rule ?_);show wpAny _ _ (standAt i1.pos >>= _) _ _ s;exact wpAny_bind (wpAny_standAt (wpAny_bind (wpAny_mono h (λit' s' h'=>wpAny_pure (And.intro rfl h')) λ_ _ x=>x.elim)))
end
end L2
namespace L2
open PySem PySem.Spec PyProof.Rows SQ STB SV
def SetE(a:Addr)(bs:List (D×Addr)):Program->World->Heap->Prop:=λP w h=>Heap.SetSh w (jy P w) h a bs
theorem SetE.stay{a:Addr}{bs:List (D×Addr)}{P:Program}{w:World}{h1 h2:Heap}(x:SetE a bs P w h1)(k:∀o,h1.get? a=some o->h2.get? a=some o):SetE a bs P w h2:=by
 obtain⟨o,es,ep,t,ho,r⟩:=x;exact⟨o,es,ep,t,k o ho,r⟩
theorem SetE.at{a:Addr}{bs:List (D×Addr)}{P:Program}{w:World}{h:Heap}(x:SetE a bs P w h):∃o,h.get? a=some o/\o.cls=.type "set" := by
 obtain⟨o,_,_,_,ho,hex,_⟩:=x;exact⟨o,ho,hex.1⟩
theorem SetE.ok{a:Addr}{bs:List (D×Addr)}{P:Program}{w:World}{H:Hp}{h:Heap}(x:SetE a bs P w h):ObjOk P w H h a (.mx (SetE a bs)) :=
 ⟨x,x.at.imp λ_ z=>z.1,λ_ _ y k=>y.stay k⟩
theorem znu{H:Hp}{a:Addr}{o:HO}(h:H a=some o):upd H a o=H:=by
 funext b
 unfold upd
 split
 ·next e=>rw[e,h]
 ·rfl
def zqa(bs:List (D×Addr))(d:D)(b:Addr)(bs':List (D×Addr)):Prop:=(bs'=bs/\∃p∈bs,p.1=d)\/(bs'=bs ++ [(d,b)]/\∀p∈bs,p.1≠d)
section
variable {X:Cx}
theorem znv{pins:List (Addr×Obj)}{σ:St}{H:Hp}{s:Shared}(I:Inv X pins σ H s){d:D}{v:V}(h:Rep X.K H d v):∀u,RelV v u->qc d=true->xb s.heap d u :=
 Rep.rec (motive_1:=λd v _=>∀u,RelV v u->qc d=true->xb s.heap d u) (motive_2:=λds vs _=>∀us,Vals vs us->keyBs ds=true->KReps s.heap ds us) (motive_3:=λ_ _ _=>True)
  (λ_ _ k=>by simp[qc]at k) (λ_ _ k=>by simp[qc]at k)
  (λ{i} u r _=>by obtain⟨t,rfl⟩:=(show ∃t,u=Value.int i t from r);exact .int _ _)
  (λ{x} u r _=>by obtain⟨t,rfl⟩:=(show ∃t,u=Value.str x t from r);exact .str _ _)
  (λh _ ih u r k=>by
   cases r;obtain⟨its,rv,⟨o,g,c,n,e⟩,_⟩:=I.tuple h;rw[qc]at k;exact .tup g c e (by have:=ih its rv k;simpa using this))
  (λ_ _ _ _ _ k=>by simp[qc]at k) (λ_ _ _ _ _ k=>by simp[qc]at k)
  (λus r _=>by cases r;exact .nil)
  (λ_ _ ih1 ih2 us r k=>by
   cases r with
   |cons r1 r2=>
    rw[keyBs,Bool.and_eq_true]at k;exact .cons (ih1 _ r1 k.1) (ih2 _ r2 k.2)) trivial (λ_ _ _ _=>trivial) h
theorem zah{pins:List (Addr×Obj)}{σ:St}{H:Hp}{s:Shared}(I:Inv X pins σ H s){d:D}{b:Addr}(h:Rep X.K H d (.ref b))(k:KyD d):znj s.heap d b:=⟨znv I h _ rfl k.2.1,k.2.2.1,k.2.2.2⟩
theorem zqb{pins:List (Addr×Obj)}{σ:St}{H:Hp}{s:Shared}{E:Value->Shared->Prop}{Q:Value->Shared->Prop}{Dd b:Addr}{bs:List (D×Addr)}{d:D}(hu:X.A.units+16<cLine)(I:Inv X pins σ H s)(hD:H Dd=some (.mx (SetE Dd bs)))
  (hb:∀p∈bs,Rep X.K H p.1 (.ref p.2)/\KyD p.1) (hr:Rep X.K H d (.ref b)) (hk:KyD d) (hl:bs.length<300) (q:∀bs' s',zqa bs d b bs'->Inv X pins σ (upd H Dd (.mx (SetE Dd bs'))) s'->Q .none s') :
  wpAny (model X.prog X.w) X.A (call (.builtin "set.add") [.ref Dd,.ref b]) Q E s:=by
 have hS:Heap.SetSh X.w (jy X.prog X.w) s.heap Dd bs:=(I.hok Dd _ hD).1;have hT:s.TypeIs (.ref Dd) "set" := SetE.at (P:=X.prog) hS;refine wpAny_call_entry F.slot_set_add hT F.entry_set_add ?_ (F.args_set_add_2 _ _);unfold Builtin.«set.add» Builtin.Frozenset.oneOther;simp only[List.isEmpty_nil,bind_assoc];unfold Builtin.Frozenset.addrOf;refine wpAny_bind (wpAny_pure ?_)
 try dsimp only
 refine wpAny_bind (wpAny_pure ?_)
 try dsimp only
 refine wpAny_bind (@zia X.prog X.w PyData decD (znk X.prog X.w) _ _ _ _ _ _ _ _ (show X.A.in1.units+8<cLine by rw[Around.in1_units];lia) hS (λp hp=>zah I (hb p hp).1 (hb p hp).2) (zah I hr hk) hl (λold tk ht=>?_) λnew h' tk ht sb hS'=>?_)
 ·show wpAny _ _ (ret Value.none) _ _ _;exact wpAny_pure ⟨_,rfl,q bs _ (.inl ⟨rfl,old⟩) (by rw[znu hD];exact I.tok _)⟩
 ·show wpAny _ _ (ret Value.none) _ _ _;refine wpAny_pure ⟨_,rfl,q _ _ (.inr ⟨rfl,new⟩) ?_⟩;exact I.write (t':=tk) (x:=Dd) (e:=Dd) (by rw[hD];exact trivial) (.inl rfl) (λc u hc z=>(sb.2 c hc).trans z) ((SetE.at (P:=X.prog) hS').imp λ_ z=>z.1) (SetE.ok hS')
theorem zay{α:Type}{f:α->D}{ds l:List D}(p:ds.Perm l):∀{as:List α},l=as.map f->∃bs:List α,ds=bs.map f/\bs.Perm as:=by
 induction p with
 |nil=>
  intro as e
  cases as with
  |nil=>exact⟨[],rfl,.refl _⟩
  |cons a as=>cases e
 |cons x p ih=>
  intro as e
  cases as with
  |nil=>cases e
  |cons a as=>
   rw[List.map_cons,List.cons.injEq]at e;obtain⟨bs,rfl,q⟩:=ih e.2;exact⟨a::bs,by rw[e.1];rfl,q.cons a⟩
 |swap x y l=>
  intro as e
  cases as with
  |nil=>cases e
  |cons a as=>
   cases as with
   |nil=>cases e
   |cons b as=>
    simp only[List.map_cons,List.cons.injEq]at e;obtain⟨rfl,rfl,rfl⟩:=e;exact⟨b::a::as,rfl,.swap _ _ _⟩
 |trans p1 p2 ih1 ih2=>
  intro as e;obtain⟨b2,e2,q2⟩:=ih2 e;obtain⟨b1,e1,q1⟩:=ih1 e2;exact⟨b1,e1,q1.trans q2⟩
theorem zey{α:Type}{f:α->D}{pins:List (Addr×Obj)}{σ:St}{H:Hp}{s:Shared}(I:Inv X pins σ H s)(ky:∀x,KyD (f x)){xs:List α}{vs:List V}{us:List Value}(r:Reps X.K H (xs.map f) vs)(q:Vals vs us):All2 (λu x=>xb s.heap (f x) u) us xs:=by
 induction xs generalizing vs us with
 |nil=>cases r;cases q;exact .nil
 |cons x xs ih=>
  cases r with|cons r rs=>
  cases q with|cons q qs=>exact .cons (znv I r _ q (ky x).2.1) (ih rs qs)
def vg{α:Type}(enc:α->List Int)(xs zs:List α):Prop:=(zs.map enc).Pairwise (· < ·)/\∀z,z∈zs↔z∈xs
theorem zdz{α:Type}{f:α->D}{enc:α->List Int}(S:SEnc f enc){xs zs:List α}(nd:xs.Nodup)(p:zs.Perm xs)(pw:(zs.map enc).Pairwise λa b=>¬ b<a):vg enc xs zs:=by
 have nz:zs.Nodup:=p.nodup_iff.mpr nd;refine⟨?_,λz=>p.mem_iff⟩;rw[List.pairwise_map]at pw ⊢;refine(List.Pairwise.and pw nz).imp λ{a b} h=>?_;rcases List.le_iff_lt_or_eq.mp (List.not_lt.mp h.1) with c|c
 ·exact c
 ·exact absurd (S.inj _ _ c) h.2
theorem znw{α:Type}{f:α->D}{enc:α->List Int}(S:SEnc f enc){zs:List α}{ks:List (List Int)}{us:List Value}{h:Heap}(hz:All2 (λu x=>xb h (f x) u) us zs)(hk:All2 (λv k=>(zc6 f enc h).keyOf v=some k) us ks)(pw:ks.Pairwise (zc6 f enc h).kle):(zs.map enc).Pairwise λa b=>¬ b<a:=by
 have ek:ks=zs.map enc:=by
  clear pw
  induction hk generalizing zs with
  |nil=>cases hz;rfl
  |cons h t ih=>
   cases hz with
   |cons h1 t1=>
    rw[show(zc6 f enc _).keyOf _=zaw f enc _ _ from rfl,zax S h1]at h
    cases h;rw[List.map_cons,ih t1]
 subst ek;exact pw.imp λh=>by simpa[zc6,zu9,KeyOrd.kle]using h
end
end L2
namespace L2
open PySem PySem.Spec PyProof.Rows SQ STB SV
section
variable {X:Cx}
def zcg(K:PySem.W.Frag)(J:It)(D:Addr)(g:TG)(tt:TT)(wi2:TI)(g2:TG)(tt2:TT)(te:TE)(σ0:St)(H1:Hp)(Q:VK):Prop :=
 ∃W:Nat->Nat->St->Hp->Prop,(∃m,W 0 m σ0 (upd H1 D (.mx (SetE D []))))/\∀i m σ H,W i m σ H ->
  (J.stop i H/\Q (.ref D) H)\/(J.go i H/\∀x H',J.yld i H x H'->g x σ H' λσ2 H2=>tt σ2 H2 λb H3=>
   if b=true then wi2 σ2 H3 λJ2 H4=>∃W2:Nat->Nat->St->Hp->Prop,(∃m2,W2 0 m2 σ2 H4)/\∀i2 n2 σ' H',W2 i2 n2 σ' H' ->
    (J2.stop i2 H'/\∃m',m' < m/\W (i+1) m' σ' H')\/(J2.go i2 H'/\∀x H5,J2.yld i2 H' x H5->g2 x σ' H5 λσ6 H6=>tt2 σ6 H6 λb H7=>
     if b=true then te σ6 H7 λy H8=>∃bs d b,y=.ref b/\H8 D=some (.mx (SetE D bs))/\(∀p∈bs,Rep K H8 p.1 (.ref p.2)/\KyD p.1)/\Rep K H8 d (.ref b)/\KyD d/\bs.length<300/\∀bs',zqa bs d b bs'->∃m',m' < n2/\W2 (i2+1) m' σ6 (upd H8 D (.mx (SetE D bs')))
     else ∃m',m' < n2/\W2 (i2+1) m' σ6 H7)
   else ∃m',m' < m/\W (i+1) m' σ2 H3)
theorem zk1{prog:Program}{w:World}{A:Around}{E:Value->Shared->Prop}{s:Shared}{Q:Value->Shared->Prop}(h:Q (.ref s.heap.objs.size) { s with heap:=s.heap.push { cls:=.type "set",dict:=none,data:=.set #[] 0 (.fresh 0 0 (!w.params.followText "set-order")) } }):wpAny (model prog w) A (newSet (.type "set")) Q E s:=by
 unfold newSet setsByText;refine wpAny_bind (wpAny_bind (wpAny_askSetting (wpAny_pure ?_)));dsimp only;simp only[newObj];exact wpAny_bind (wpAny_alloc (wpAny_pure h))
theorem zk2{P:Program}{w:World}{h:Heap}{a:Addr}(e:h.get? a=some { cls:=.type "set",dict:=none,data:=.set #[] 0 (.fresh 0 0 (!w.params.followText "set-order")) }):SetE a [] P w h :=
 ⟨_,#[],0,_,e,⟨rfl,rfl,rfl⟩,rfl,List.Perm.refl _,⟨.inl rfl,rfl,rfl,List.Pairwise.nil,show 0 * 5<7 * 3 by decide,rfl⟩,λp hp=>by cases hp⟩
theorem zk3{N' capt:List Str}{k:Nat}{js:List Nat}{scope:Scope}{cl:List (Str×Addr)}{fp:List Addr}{pins:List (Addr×Obj)}{σ:St}{H2:Hp}{s2:Shared}{D C:Addr}{h4:Heap}{t4:Nat}{m:Str->Option Value}(I:Inv X pins σ H2 s2)(ok:(yd X N' scope cl C fp s2 H2).Ok)
  (hD:s2.heap.objs.size<=D) (hC:s2.heap.objs.size<=C) (hDC:D≠C) (keep:∀b o,s2.heap.get? b=some o->h4.get? b=some o) (hns:h4.Ns C m)
  {u:HO} (hl:ObjOk X.prog X.w (upd H2 D u) h4 D u)
  (hsub:SubC X cl) (hcap:Capt X scope cl capt js) (hN:N'=N'.take k++capt) (hk:k<=N'.length) :
  Inv (yd X N' scope cl C fp s2 H2) [] (z9 k js σ) (upd H2 D u) { s2 with heap:=h4,toks:=t4 }:=by
 have below:∀b o,s2.heap.get? b=some o->b≠D/\b≠C:=λb o e=>⟨Nat.ne_of_lt (Nat.lt_of_lt_of_le (Heap.lt_size e) hD),Nat.ne_of_lt (Nat.lt_of_lt_of_le (Heap.lt_size e) hC)⟩
 have hlen:N'.length=k+capt.length:=by
  have:=congrArg List.length hN;rw[List.length_append,List.length_take]at this;lia
 refine⟨ok,rfl,I.bare,Un.laid keep hD (I.hok.fresh hD),⟨m,hns,λi x v h1 h2 h3=>?_⟩,λx c h=>?_,?_,λx c h=>?_,λp hp=>absurd (show p∈([]:List (Addr×Obj)) from hp) (by simp),?_,?_⟩
 ·have h1:N'[i]?=some x:=h1;unfold z9 at h2
  by_cases hi:i<k
  ·rw[List.getElem?_append_left (by simpa using hi),List.getElem?_replicate]at h2;rw[if_pos hi]at h2
   cases h2
  ·rw[List.getElem?_append_right (by simpa using hi),List.length_replicate,List.getElem?_map]at h2
   have hx:capt[i-k]?=some x:=by
    rw[hN,List.getElem?_append_right (by rw[List.length_take];lia),List.length_take]at h1;rw[show min k N'.length=k by lia]at h1;exact h1
   cases ej:js[i-k]? with
   |none=>rw[ej]at h2;cases h2
   |some j=>
    rw[ej]at h2;have h2':(σ[j]?).join=some v:=Option.some.inj h2;obtain⟨q1,q2,q3,q4⟩:=hcap.get.2 _ _ _ hx ej;have hv:σ[j]?=some (some v):=by
     cases e:σ[j]? with
     |none=>rw[e]at h2';cases h2'
     |some o=>rw[e]at h2';cases o with
      |none=>cases h2'
      |some v'=>simpa using h2'
    obtain⟨m0,hn0,hl0⟩:=I.loc;obtain⟨u,r,l⟩:=hl0 j x v q1 hv (by rcases q2 with z|z;exact .inr (.inl z);exact .inr (.inr z));refine⟨u,r,?_⟩;rcases l with⟨z,_⟩ |⟨_,c,e,o,z1,z2⟩
    ·rcases q2 with q|q <;> · rw[q]at z;cases z
    ·exact .inr ⟨q4,c,q3.trans e,o,keep c o z1,z2⟩
 ·obtain⟨v,o,z1,z2⟩:=I.cell x c (hsub.of x c h);exact⟨v,o,keep c o z1,z2⟩
 ·show upd H2 D u C=none;rw[zv (Ne.symm hDC)];exact I.hok.fresh hC
 ·obtain⟨v,o,z1,z2⟩:=I.cell x c (hsub.of x c h);show upd H2 D u c=none;rw[zv (below c o z1).1];exact I.freeC x c (hsub.of x c h)
 ·exact I.hok.laid keep hD hl
 ·show(z9 k js σ).length=N'.length;unfold z9;rw[List.length_append,List.length_replicate,List.length_map,hlen,hcap.get.1]
theorem zth(hu:X.A.units+16<cLine){elt t1 i1 t2 i2:Expr}{f1 f2:List Expr}{scope:Scope}{pos:Pos}{cl:List (Str×Addr)}{N':List Str}{C:Addr}{fp:List Addr}{s2:Shared}{H2:Hp}{g2:TG}{tt2:TT}{te:TE}{D:Addr}
  (hg:PG (yd X N' scope cl C fp s2 H2) t2 g2) (ht:PTs (yd X N' scope cl C fp s2 H2) f2 tt2) (he:PE (yd X N' scope cl C fp s2 H2) elt te)
  {pins:List (Addr×Obj)}{σ:St}{H:Hp}{s:Shared}{J:It}{fq:List Addr}{it:Addr}{tn:Nat->Heap->Prop}{W:Nat->Nat->St->Hp->Prop}{Z:St->Hp->Prop}{m0:Nat}
  (I:Inv (yd X N' scope cl C fp s2 H2) pins σ H s) (T:zg5 X.prog X.w X.K t2 J fq it tn) (st:tn 0 s.heap) (f:∀b∈fq,zan (yd X N' scope cl C fp s2 H2) pins H b) (w0:W 0 m0 σ H)
  (turn:∀i n σ' H',W i n σ' H'->(J.stop i H'/\Z σ' H')\/(J.go i H'/\∀x H5,J.yld i H' x H5->g2 x σ' H5 λσ6 H6=>tt2 σ6 H6 λb H7=>
   if b=true then te σ6 H7 λy H8=>∃bs d b,y=.ref b/\H8 D=some (.mx (SetE D bs))/\(∀p∈bs,Rep X.K H8 p.1 (.ref p.2)/\KyD p.1)/\Rep X.K H8 d (.ref b)/\KyD d/\bs.length<300/\∀bs',zqa bs d b bs'->∃m',m' < n/\W (i+1) m' σ6 (upd H8 D (.mx (SetE D bs'))) else ∃m',m' < n/\W (i+1) m' σ6 H7)) :
  codeAny (model X.prog X.w) X.A (.compLoop (SC2 elt t1 i1 t2 i2 f1 f2 scope pos) 1 (.ref it) (.ref D) (compEnvC scope cl C X.env)) (λr s'=>match r with|.ok _=>∃σ' H',Inv (yd X N' scope cl C fp s2 H2) pins σ' H' s'/\Z σ' H'|.error _=>False) s:=by
 have stat:∀{H':Hp},(∀b∈fq,H' b=none)->∀b∈fq,zan (yd X N' scope cl C fp s2 H2) pins H' b:=λhn b hb=>⟨hn b hb,(f b hb).2⟩
 refine zic (λn s'=>∃i σ' H',Inv (yd X N' scope cl C fp s2 H2) pins σ' H' s'/\tn i s'.heap/\(∀b∈fq,H' b=none)/\W i n σ' H') ?_ m0 ⟨0,_,_,I,st,λb hb=>(f b hb).1,w0⟩;intro n s3 zz;refine gg λG zk=>?_;obtain⟨i,σ3,H3,I3,st3,fr3,w3⟩:=zz;refine zk ?_;clear zk;rcases turn i n σ3 H3 w3 with⟨stop,qn⟩ |⟨go,step⟩
 ·refine thn (T.done (yd X N' scope cl C fp s2 H2) rfl rfl rfl rfl i pins s3 σ3 H3 (λ_ _=>False) I3 (stat fr3) st3 stop) λr s4 zy7=>?_;obtain⟨hr,J4⟩:=zy7;subst hr;exact⟨σ3,H3,J4,qn⟩
 ·refine thn (T.item (yd X N' scope cl C fp s2 H2) rfl rfl rfl rfl i pins s3 σ3 H3 (λ_ _=>False) I3 (stat fr3) st3 go) λr s4 zy10=>?_;obtain⟨u,hr,h4⟩:=zy10;subst hr;refine thn h4 λ_ s5 zr36=>?_;obtain⟨x,H5,I5,r5,y5,st5,fr5⟩:=zr36;have I5':=I5.pinned (stat fr5) (T.obj _ _ st5);refine thn (hg _ s5 σ3 H5 x u _ I5' r5 (step x H5 y5)) λ_ s6 zr38=>?_;obtain⟨σ6,H6,I6,q6⟩:=zr38;refine thn (ht _ s6 σ6 H6 _ I6 q6) λok s7 zy17=>?_;obtain⟨H7,I7,q7⟩:=zy17
  have again:∀{H8:Hp}{s8:Shared},Inv (yd X N' scope cl C fp s2 H2) (pins++jc fq s5.heap) σ6 H8 s8->(∃m',m' < n/\W (i+1) m' σ6 H8)->∃m,m<n/\∃i σ' H',Inv (yd X N' scope cl C fp s2 H2) pins σ' H' s8/\tn i s8.heap/\(∀b∈fq,H' b=none)/\W i m σ' H':=λ{H8 s8} I8 n8=>by
   obtain⟨m',hm,w8⟩:=n8;refine⟨m',hm,i+1,σ6,H8,I8.unpinned,T.keep _ _ _ st5 λb hb o e=>(I8.pin (b,o) (List.mem_append_right _ (List.mem_append_right _ (y6 hb e)))).1,λb hb=>?_,w8⟩;obtain⟨o,e,d⟩:=T.obj _ _ st5 b hb;exact(I8.pin (b,o) (List.mem_append_right _ (List.mem_append_right _ (y6 hb e)))).2.1
  cases ok with
  |false=>
   rw[if_neg Bool.false_ne_true]at q7;exact again I7 q7
  |true=>
   rw[if_pos rfl]at q7;refine thn (he _ s7 σ6 H7 _ I7 q7) λy s8 zr51=>?_;obtain⟨v8,H8,I8,r8,q8⟩:=zr51;obtain⟨bs,d,b,ey,e8,hb8,rd8,ky8,l8,w8⟩:=q8;subst ey
   cases r8;exact zqb (X:=yd X N' scope cl C fp s2 H2) hu I8 e8 hb8 rd8 ky8 l8 λbs' s9 ad I9=>again I9 (w8 bs' ad)
theorem zk4{elt tg iter t2 i2:Expr}{ifs ifs2:List Expr}{wi2:TI}{g2:TG}{tt2:TT}{scope:Scope}{pos:Pos}{cl:List (Str×Addr)}{N' capt:List Str}{k:Nat}{js:List Nat}{g:TG}{tt:TT}{te:TE}{J:It}{fp:List Addr}{tn:Nat->Heap->Prop}{it:Addr}
  {pins:List (Addr×Obj)}{σ:St}{H2:Hp}{s2:Shared}{Q:VK}{E:Value->Shared->Prop} (hc:X.calm=true) (hu:X.A.units+16<cLine) (L:zc1 X scope cl N' capt k js)
  (hg:∀C fp s2 H2,PG (yd X N' scope cl C fp s2 H2) tg g) (ht:∀C fp s2 H2,PTs (yd X N' scope cl C fp s2 H2) ifs tt) (hi2:∀C fp s2 H2,PI (yd X N' scope cl C fp s2 H2) t2 i2 wi2) (hg2:∀C fp s2 H2,PG (yd X N' scope cl C fp s2 H2) t2 g2) (ht2:∀C fp s2 H2,PTs (yd X N' scope cl C fp s2 H2) ifs2 tt2) (he:∀C fp s2 H2,PE (yd X N' scope cl C fp s2 H2) elt te) (hs2:∀C x,foldedSetIterable i2 (compEnvC scope cl C X.env) x=pure x)
  (I2:Inv X pins σ H2 s2) (T:zg5 X.prog X.w X.K tg J fp it tn) (st2:tn 0 s2.heap) (f2:∀b∈fp,zan X pins H2 b) (q:∀D,H2 D=none->zcg X.K J D g tt wi2 g2 tt2 te (z9 k js σ) H2 Q) :
  wpAny (model X.prog X.w) X.A (newSet (.type "set")) (λacc s3=>wpAny (model X.prog X.w) X.A (newFunctionEnv scope X.env.globals cl [] X.env.qual none .none (some X.env)) (λcenv s4=>
   codeAny (model X.prog X.w) X.A (.compStart (SC2 elt tg iter t2 i2 ifs ifs2 scope pos) 0 (.ref it) acc { cenv with scope:=relabel scope X.env }) (LcEnd X pins σ Q acc cenv.locals) s4) E s3) E s2:=by
 refine zk1 (wpAny_newFunctionEnv L.cell (by intro y hy;simp at hy) (λh₁ hns₁ hsb₁=>?_) L.kind);dsimp only at hns₁ hsb₁ ⊢;generalize hH2:s2.heap.push { cls:=.type "set",dict:=none,data:=.set #[] 0 (.fresh 0 0 (!X.w.params.followText "set-order")) }=G at hns₁ hsb₁ ⊢;have hC:G.objs.size=s2.heap.objs.size+1:=by rw[<-hH2,Heap.size_push]
 have hDC:s2.heap.objs.size≠G.objs.size:=by rw[hC];exact Nat.ne_of_lt (Nat.lt_succ_self _)
 have hCle:s2.heap.objs.size<=G.objs.size:=by rw[hC];exact Nat.le_succ _
 have below:∀b,b<s2.heap.objs.size->b≠G.objs.size:=λb hb=>by rw[hC];exact Nat.ne_of_lt (Nat.lt_succ_of_lt hb)
 have keep:∀b o,s2.heap.get? b=some o->h₁.get? b=some o:=λb o e=>hsb₁.extBut b o (below b (Heap.lt_size e)) (Heap.get?_push_of_some _ (hH2 ▸ Heap.get?_push_of_some _ e));have hl:h₁.get? s2.heap.objs.size=some { cls:=.type "set",dict:=none,data:=.set #[] 0 (.fresh 0 0 (!X.w.params.followText "set-order")) }:=hsb₁.extBut _ _ hDC (Heap.get?_push_of_some _ (hH2 ▸ Heap.get?_push_size _ rfl));have ho2:=T.obj _ _ st2;have ok:(yd X N' scope cl G.objs.size fp s2 H2).Ok:=zqt I2 hc L.kind hCle L.sub L.has f2 ho2;generalize hD:s2.heap.objs.size=D at hl hDC ⊢;generalize hCC:G.objs.size=C at hns₁ hsb₁ hDC hC hCle below ok ⊢;have hDle:s2.heap.objs.size<=D:=by rw[hD];exact Nat.le_refl _
 have I4:Inv (yd X N' scope cl C fp s2 H2) [] (z9 k js σ) (upd H2 D (.mx (SetE D []))) { s2 with heap:=h₁,toks:=s2.toks+([]:List (Str×Value)).length } :=
  zk3 I2 ok hDle hCle hDC keep hns₁ (SetE.ok (zk2 hl)) L.sub L.cap L.hN L.hk
 obtain⟨W,⟨m0,w0⟩,turn⟩:=q D (I2.hok.fresh hDle);have tn0:tn 0 h₁:=T.keep _ _ _ st2 λb _ o e=>keep b o e;have fr0:∀b∈fp,upd H2 D (.mx (SetE D [])) b=none:=λb hb=>by
  obtain⟨o,e,_⟩:=ho2 b hb;rw[zv (Nat.ne_of_lt (Nat.lt_of_lt_of_le (Heap.lt_size e) hDle))];exact(f2 b hb).1
 have stat:∀{H':Hp},(∀b∈fp,H' b=none)->∀b∈fp,zan (yd X N' scope cl C fp s2 H2) [] H' b:=λhn b hb=>by
  refine⟨hn b hb,(ok.exf b hb).1,ok.exfs b hb,.inl hb,(ok.exf b hb).2,λp hp=>absurd (show p∈([]:List (Addr×Obj)) from hp) (by simp)⟩
 have loop:∀s₃:Shared,s₃ = { s2 with heap:=h₁,toks:=s2.toks+([]:List (Str×Value)).length } ->
   codeAny (model X.prog X.w) X.A (.compLoop (SC2 elt tg iter t2 i2 ifs ifs2 scope pos) 0 (.ref it) (.ref D) (compEnvC scope cl C X.env)) (LcEnd X pins σ Q (.ref D) C) s₃:=by
  rintro s₃ rfl;refine zid (λn s'=>∃i σ' H',Inv (yd X N' scope cl C fp s2 H2) [] σ' H' s'/\tn i s'.heap/\(∀b∈fp,H' b=none)/\W i n σ' H') (hs2 C) ?_ m0 ⟨0,_,_,I4,tn0,fr0,w0⟩;intro n s3 zz;refine gg λG zk=>?_;obtain⟨i,σ3,H3,I3,st3,fr3,w3⟩:=zz;refine zk ?_;clear zk;rcases turn i n σ3 H3 w3 with⟨stop,qn⟩ |⟨go,step⟩
  ·refine thn (T.done (yd X N' scope cl C fp s2 H2) rfl rfl rfl rfl i [] s3 σ3 H3 (λ_ _=>False) I3 (stat fr3) st3 stop) λr s4 zy75=>?_;obtain⟨hr,J4⟩:=zy75;subst hr;obtain⟨m,hn,_⟩:=id J4.loc;have hs:X.s₀.heap.objs.size<=C:=Nat.le_trans I2.sz hCle;refine⟨.next,D,H3,m,rfl,rfl,I2.call' (ch:=fp) J4.os J4.base J4.hok J4.bare (λb hb=>?_),qn,hn,J4.free,λz=>?_,hs,λx c h z=>?_,λp hp z=>?_⟩
   ·obtain⟨f0,f1,f2',f3,f4,f5⟩:=f2 b hb;exact⟨f3,f1,f4,f5⟩
   ·have:=I2.lt;rw[<-z]at this;exact absurd (Nat.lt_of_lt_of_le this hCle) (Nat.lt_irrefl _)
   ·obtain⟨v,o,z1,_⟩:=I2.cell x c h;have:=Heap.lt_size z1;rw[z]at this;exact absurd (Nat.lt_of_lt_of_le this hCle) (Nat.lt_irrefl _)
   ·have:=Heap.lt_size (I2.pin p hp).1;rw[z]at this;exact absurd (Nat.lt_of_lt_of_le this hCle) (Nat.lt_irrefl _)
  ·refine thn (T.item (yd X N' scope cl C fp s2 H2) rfl rfl rfl rfl i [] s3 σ3 H3 (λ_ _=>False) I3 (stat fr3) st3 go) λr s4 zy3=>?_;obtain⟨u,hr,h4⟩:=zy3;subst hr;refine thn h4 λ_ s5 zr21=>?_;obtain⟨x,H5,I5,r5,y5,st5,fr5⟩:=zr21;have I5':=I5.pinned (stat fr5) (T.obj _ _ st5);refine thn (hg C fp s2 H2 _ s5 σ3 H5 x u _ I5' r5 (step x H5 y5)) λ_ s6 zr23=>?_;obtain⟨σ6,H6,I6,q6⟩:=zr23;refine thn (ht C fp s2 H2 _ s6 σ6 H6 _ I6 q6) λok s7 zy10=>?_;obtain⟨H7,I7,q7⟩:=zy10
   have again:∀{σ8:St}{H8:Hp}{s8:Shared},Inv (yd X N' scope cl C fp s2 H2) ([]++jc fp s5.heap) σ8 H8 s8->(∃m',m' < n/\W (i+1) m' σ8 H8)->∃m,m<n/\∃i σ' H',Inv (yd X N' scope cl C fp s2 H2) [] σ' H' s8/\tn i s8.heap/\(∀b∈fp,H' b=none)/\W i m σ' H':=λ{σ8 H8 s8} I8 n8=>by
    obtain⟨m',hm,w8⟩:=n8;refine⟨m',hm,i+1,σ8,H8,I8.unpinned,T.keep _ _ _ st5 λb hb o e=>(I8.pin (b,o) (List.mem_append_right _ (List.mem_append_right _ (y6 hb e)))).1,λb hb=>?_,w8⟩;obtain⟨o,e,d⟩:=T.obj _ _ st5 b hb;exact(I8.pin (b,o) (List.mem_append_right _ (List.mem_append_right _ (y6 hb e)))).2.1
   cases ok with
   |false=>
    rw[if_neg Bool.false_ne_true]at q7;exact again I7 q7
   |true=>
    rw[if_pos rfl]at q7;refine thn (hi2 C fp s2 H2 _ s7 σ6 H7 _ I7 q7) λy s8 h8=>thn h8 λitv s9 h9=>?_;obtain⟨it2,fp2,tn2,J2,H9,e9,I9,T2,st9,f9,W2,⟨m2,w2⟩,turn2⟩:=h9;subst e9;have inner:=zth hu (pos:=pos) (i1:=iter) (t1:=tg) (f1:=ifs) (i2:=i2) (hg2 C fp s2 H2) (ht2 C fp s2 H2) (he C fp s2 H2) I9 T2 st9 f9 w2 turn2;refine zp8 (codeAny_mono inner λr s10 h10=>?_) (T2.self _ 0 _ _ _ st9 (codeAny_mono inner λr s10 h10=>?_))
    all_goals
     cases r with
     |ok f=>
      obtain⟨σ10,H10,I10,w10⟩:=h10;exact again I10 w10
     |error e=>exact h10
 exact zp9 (loop _ rfl) (T.self _ 0 _ _ _ tn0 (loop _ rfl))
theorem zez(elt:Expr)(gens:List Comprehension)(scope:Scope)(pos:Pos)(env:Env):eval (.SetComp elt gens scope pos) env =
  comprehension (.SetComp elt gens scope pos) scope env (firstIterPos gens pos) (newSet (.type "set")) (firstAsync gens) (firstIter gens env):=rfl
def zwh(X:Cx)(k:Nat)(js:List Nat)(wi:TI)(g:TG)(tt:TT)(wi2:TI)(g2:TG)(tt2:TT)(te:TE):TE:=λσ H Q=>wi σ H λJ H1=>∀Dd,H1 Dd=none->zcg X.K J Dd g tt wi2 g2 tt2 te (z9 k js σ) H1 λ_ H'=>
 ∃(α:Type) (f:α->D) (enc:α->List Int) (xs:List α) (bs:List (D×Addr)),SEnc f enc/\H' Dd=some (.mx (SetE Dd bs))/\(∀p∈bs,Rep X.K H' p.1 (.ref p.2)/\KyD p.1)/\bs.map (·.1)=xs.map f/\xs.Nodup/\bs.length<=300 /\
  ∀zs,vg enc xs zs->∀(d:Addr) (H2:Hp) (vs':List V),Same H' H2->H' d=none->H2 d=some (.lst vs')->Reps X.K H2 (zs.map f) vs'->Q (.ref d) H2
theorem zk5{α:Type}{f:α->D}{enc:α->List Int}(S:SEnc f enc){xs:List α}{pins:List (Addr×Obj)}{σ:St}{H:Hp}{s:Shared}{Q:List D->Prop}{Dd:Addr}{bs:List (D×Addr)}(I:Inv X pins σ H s)(hc:X.calm=true)(hu:X.A.units+16<cLine)
  (hD:H Dd=some (.mx (SetE Dd bs))) (hb:∀p∈bs,Rep X.K H p.1 (.ref p.2)/\KyD p.1) (hx:bs.map (·.1)=xs.map f) (nd:xs.Nodup) (hl:bs.length<=300) (q:∀zs,vg enc xs zs->Q (zs.map f)) :
  wpAny (model X.prog X.w) X.A (call (.builtin "sorted") [.ref Dd]) (zfp X pins σ H Q) X.xe s:=by
 obtain⟨o,es,ep,t,ho,hex,hd,hp,T,_⟩:=(show Heap.SetSh X.w (jy X.prog X.w) s.heap Dd bs from(I.hok Dd _ hD).1)
 have hz:es.size=bs.length:=by rw[<-Array.length_toList,hp.length_eq,List.length_map]
 have pu:(es.toList.map (·.2)).Perm (bs.map λp=>Value.ref p.2):=by
  have:=hp.map (·.2)
  rwa [List.map_map]at this
 have r:Reps X.K H (xs.map f) (bs.map λp=>V.ref p.2):=by
  rw[<-hx];clear hp hz pu hx hl q hD
  induction bs with
  |nil=>exact .nil
  |cons p bs ih=>exact .cons (hb p List.mem_cons_self).1 (ih λq hq=>hb q (List.mem_cons_of_mem _ hq))
 have rv:Vals (bs.map λp=>V.ref p.2) (bs.map λp=>Value.ref p.2):=by
  clear hp hz pu hx hl q hD r hb
  induction bs with
  |nil=>exact .nil
  |cons p bs ih=>exact .cons rfl ih
 refine Calls.call_function_entry kind_sorted plain_sorted entry_sorted (args_sorted1 _) ?_;unfold Builtin.«sorted»;refine wpAny_bind (m:=checkCount "sorted" 1 1 _) (wpAny_pure ?_);refine wpAny_bind (SV.collect_set (I.ok.hd hc) ho hex hd T.fits ⟨T.r,T.l⟩ (by rw[sizeLine_eq];lia) λh1 d1 tk ws pv k1 le=>?_);have pw:=pv.trans pu;have hlw:ws.length=bs.length:=by rw[pw.length_eq,List.length_map]
 obtain⟨vs1,ds1,rv1,r1,pd1⟩:=zar pw rv r;obtain⟨ys,rfl,ps1⟩:=zay pd1 rfl;have rf:=zey I S.ky r1 rv1;have hky:∀v∈ws,∃x,xb s.heap (f x) v:=λv hv=>by
  obtain⟨x,_,h⟩:=rf.mem hv;exact⟨x,h⟩
 have hk:∀v∈ws,∃k,(zc6 f enc s.heap).keyOf v=some k:=λv hv=>by
  obtain⟨x,h⟩:=hky v hv;exact⟨_,zax S h⟩
 refine wpAny_bind (wpAny_newList ?_ (by rw[sizeLine_eq];(clear hu le;lia)));have gL:(h1.push (seqObj "list" ws.toArray 0)).get? h1.objs.size=some (seqObj "list" ws.toArray 0):=Heap.get?_push_size _ rfl;have kp:∀{h':Heap},(∀b o,b≠h1.objs.size->(h1.push (seqObj "list" ws.toArray 0)).get? b=some o->h'.get? b=some o)->∀b o,s.heap.get? b=some o->h'.get? b=some o:=λ{h'} k b o e=>
  k b o (Nat.ne_of_lt (Heap.lt_size (k1 b o e))) (Heap.get?_push_of_some _ (k1 b o e))
 show wpAny _ _ _ _ _ { s with heap:=h1.push (seqObj "list" ws.toArray 0),drawn:=d1,toks:=tk };refine wpAny_bind (wpAny_holding (wpAny_call_entry slot_list_sort ⟨_,gL,rfl⟩ entry_list_sort (zb9 (κ:=zc6 f enc s.heap) (kd:=tuples' true) gL (by rw[sizeLine_eq];lia) (λh' k=>zj0 S (by simp only[Around.in1_units];(clear hl hz le hlw;lia)) (kp k)) (zac hk) (λh2 h' Q' k q=>znt S (λv hv=>let ⟨x,h⟩:=hky v hv;⟨x,vf (λb o g _ _=>kp k b o g) _ _ h⟩) h2 q) λout p1 p2=>⟨_,rfl,?_⟩) (args_list_sort _)));refine wpAny_pure ⟨_,rfl,?_⟩;obtain⟨e,he⟩:=sortedHeap_at (n:=0) (out:=out.map (·.2)) gL;obtain⟨pm,ks,a2,pwk⟩:=zds p1 p2 hk;obtain⟨vs',ds',rv',r',pd⟩:=zar pm rv1 r1;obtain⟨zs,rfl,pms⟩:=zay pd rfl;have hp:s.heap.objs.size<=h1.objs.size:=Nat.le_of_lt le;have hn:=I.hok.fresh hp;have lv:vs'.length<=sizeLine:=by rw[rv'.length,pm.length_eq,sizeLine_eq];lia
 exact⟨_,_,vs',_,rfl,(I.dr d1).laid (t':=tk) (o:=.lst vs') (λb o z=>by
   have hb:b<h1.objs.size:=Heap.lt_size (k1 b o z);rw[sortedHeap_old (Nat.ne_of_lt hb) (by rw[Heap.size_push];exact Nat.lt_succ_of_lt hb)];exact Heap.get?_push_of_some _ (k1 b o z)) hp ⟨lv,(out.map (·.2)).toList,e,rv',by rw[he]⟩,z5 hn _,hn,zq,r'.same (z5 hn _),q zs (zdz S nd (pms.trans ps1) (znw S (zey I S.ky r' rv') a2 pwk))⟩
theorem zie{elt tg iter t2 i2:Expr}{ifs ifs2:List Expr}{scope:Scope}{pos p cpos:Pos}{cl:List (Str×Addr)}{N' capt:List Str}{k k':Nat}{js:List Nat}{wi wi2:TI}{g g2:TG}{tt tt2:TT}{te:TE}(hr:Room k' X.A)(hgl:Gl X "sorted")(hml:X.mg "sorted" = none)(hc:X.calm=true)(L:zc1 X scope cl N' capt k js)
  (hi:PI X tg iter wi) (hg:∀C fp s2 H2,PG (yd X N' scope cl C fp s2 H2) tg g) (ht:∀C fp s2 H2,PTs (yd X N' scope cl C fp s2 H2) ifs tt)
  (hi2:∀C fp s2 H2,PI (yd X N' scope cl C fp s2 H2) t2 i2 wi2) (hg2:∀C fp s2 H2,PG (yd X N' scope cl C fp s2 H2) t2 g2) (ht2:∀C fp s2 H2,PTs (yd X N' scope cl C fp s2 H2) ifs2 tt2)
  (he:∀C fp s2 H2,PE (yd X N' scope cl C fp s2 H2) elt te) (hs2:∀C x,foldedSetIterable i2 (compEnvC scope cl C X.env) x=pure x:=by intro _ _;rfl)
  (hs:∀x,foldedSetIterable iter X.env x=pure x:=by intro _;rfl) (hst:starEach [SC2 elt tg iter t2 i2 ifs ifs2 scope pos] X.env = [(false,eval (SC2 elt tg iter t2 i2 ifs ifs2 scope pos) X.env)]:=by rfl) :
  PE X (.Call (.Name "sorted" p) [SC2 elt tg iter t2 i2 ifs ifs2 scope pos] [] cpos) (zwh X k js wi g tt wi2 g2 tt2 te):=by
 intro pins s σ H Q I h;have hu:X.A.units+16<cLine:=by have:=hr.un;lia
 refine Call_ (jb I hgl hml PyProof.Rows.boot_sorted (PyProof.Rows.callWith_builtin1 ?_ hst rfl));rw[hst];show wpAny _ _ (spliced ((false,eval (SC2 elt tg iter t2 i2 ifs ifs2 scope pos) X.env)::backTo cpos [])) _ _ s;refine Calls.spliced_cons ?_;rw[zez];refine wpAny_comprehension_free (use:=none) rfl hs L.clos L.kind L.names (thn (hi pins s σ H _ I h) λv s1 h1=>thn h1 λitv s2 h2=>?_);obtain⟨it,fp,tn,J,H2,e,I2,T,st2,f2,q⟩:=h2;subst e;refine thn (zk4 (E:=X.xe) hc hu L hg ht hi2 hg2 ht2 he hs2 I2 T st2 f2 (Q:=λv H'=>∃Dd,v=.ref Dd/\∃(α:Type) (f:α->D) (enc:α->List Int) (xs:List α) (bs:List (D×Addr)),SEnc f enc/\H' Dd=some (.mx (SetE Dd bs))/\(∀p∈bs,Rep X.K H' p.1 (.ref p.2)/\KyD p.1)/\bs.map (·.1)=xs.map f/\xs.Nodup/\bs.length<=300 /\
  ∀zs,vg enc xs zs->∀(d:Addr) (H2:Hp) (vs':List V),Same H' H2->H' d=none->H2 d=some (.lst vs')->Reps X.K H2 (zs.map f) vs'->Q (.ref d) H2) λDd hDd=>?_) λacc s3 h3=>thn h3 λcenv s4 h4=>codeAny_mono h4 λr s' hr=>?_
 ·obtain⟨W,w0,turn⟩:=q Dd hDd;refine⟨W,w0,λi m σ' H' w=>?_⟩;rcases turn i m σ' H' w with⟨st,z⟩|z
  ·exact .inl ⟨st,Dd,rfl,z⟩
  ·exact .inr z
 ·obtain⟨f,D,H',m,rfl,rfl,J',qq,hn,b1,b2,b3,b4,b5⟩:=hr;refine⟨m,hn,λh' hsb=>Calls.spliced_nil ?_⟩;obtain⟨Dd,ed,α,f,enc,xs,bs,S,hD,hb,hx,nd,hl,qz⟩:=qq
  cases ed;refine wpAny_mono (zk5 (Q:=λds=>∃zs,vg enc xs zs/\ds=zs.map f) S (LcEnd.let_go J' b1 b2 b3 b4 b5 hsb) hc hu hD hb hx nd hl λzs hz=>⟨zs,hz,rfl⟩) ?_ λ_ _ e=>e;rintro u s'' ⟨d,H3,vs',xs',rfl,I',sm,hn3,hg3,rp,zs,hz,rfl⟩;exact⟨.ref d,H3,I',rfl,qz zs hz d H3 vs' sm hn3 hg3 rp⟩
end
end L2
namespace L2
open PySem PySem.Spec PyProof.Rows SQ STB SV
def AccK(K:PySem.W.Frag)(H:Hp)(acc:List D)(bs:List (D×Addr)):Prop:=(∀p∈bs,Rep K H p.1 (.ref p.2)/\KyD p.1)/\(bs.map (·.1)).Nodup/\(∀d,d∈bs.map (·.1)↔d∈acc)/\bs.length<=acc.length
theorem AccK.nil{K:PySem.W.Frag}{H:Hp}:AccK K H [] []:=⟨λ_ h=>absurd h List.not_mem_nil,List.nodup_nil,λ_=>Iff.rfl,Nat.le_refl _⟩
theorem AccK.mono{K:PySem.W.Frag}{H H':Hp}{acc:List D}{bs:List (D×Addr)}(h:AccK K H acc bs)(p:Pers H H'):AccK K H' acc bs:=⟨λq hq=>⟨(h.1 q hq).1.mono p,(h.1 q hq).2⟩,h.2⟩
theorem AccK.same{K:PySem.W.Frag}{H H':Hp}{acc:List D}{bs:List (D×Addr)}(h:AccK K H acc bs)(s:Same H H'):AccK K H' acc bs:=h.mono s.pers
theorem AccK.add{K:PySem.W.Frag}{H:Hp}{acc:List D}{bs bs':List (D×Addr)}{d:D}{b:Addr}(h:AccK K H acc bs)(r:Rep K H d (.ref b))(k:KyD d)(a:zqa bs d b bs'):AccK K H (acc ++ [d]) bs':=by
 obtain⟨h1,h2,h3,h4⟩:=h;rcases a with⟨rfl,p,hp,e⟩ |⟨rfl,n⟩
 ·refine⟨h1,h2,λx=>?_,by rw[List.length_append];lia⟩;rw[h3 x,List.mem_append,List.mem_singleton];refine⟨.inl,λz=>z.elim id λz=>?_⟩;rw[z,<-e];exact(h3 _).mp (List.mem_map.mpr ⟨p,hp,rfl⟩)
 ·refine⟨λq hq=>?_,?_,λx=>?_,by rw[List.length_append,List.length_append];exact Nat.succ_le_succ h4⟩
  ·rcases List.mem_append.mp hq with z|z
   ·exact h1 q z
   ·rw[List.mem_singleton.mp z];exact⟨r,k⟩
  ·rw[List.map_append,List.nodup_append];refine⟨h2,List.nodup_cons.mpr ⟨List.not_mem_nil,List.nodup_nil⟩,λx hx y hy=>?_⟩;rw[List.map_cons,List.map_nil,List.mem_singleton]at hy;subst hy;obtain⟨p,hp,e⟩:=List.mem_map.mp hx;rw[<-e];exact n p hp
  ·rw[List.map_append,List.mem_append,List.mem_append,h3 x];rfl
theorem AccK.fin{α:Type}{f:α->D}{enc:α->List Int}(S:SEnc f enc){K:PySem.W.Frag}{H:Hp}{bs:List (D×Addr)}{xs:List α}(h:AccK K H (xs.map f) bs):∃ys:List α,bs.map (·.1)=ys.map f/\ys.Nodup/\∀z,z∈ys↔z∈xs:=by
 obtain⟨_,h2,h3,_⟩:=h;have all:∀l:List D,(∀d∈l,∃x,d=f x)->∃ys:List α,l=ys.map f:=λl=>by
  induction l with
  |nil=>intro _;exact⟨[],rfl⟩
  |cons d l ih=>
   intro h;obtain⟨x,e⟩:=h d List.mem_cons_self;obtain⟨ys,e2⟩:=ih λd hd=>h d (List.mem_cons_of_mem _ hd);exact⟨x::ys,by rw[List.map_cons,e,e2]⟩
 obtain⟨ys,e⟩:=all (bs.map (·.1)) λd hd=>by
  obtain⟨x,_,e⟩:=List.mem_map.mp ((h3 d).mp hd);exact⟨x,e.symm⟩
 rw[e]at h2 h3;refine⟨ys,e,?_,λz=>?_⟩
 ·rw[List.Nodup,List.pairwise_map]at h2;exact h2.imp λh z=>h (congrArg f z)
 ·have:=h3 (f z);rw[List.mem_map,List.mem_map]at this;refine⟨λh=>?_,λh=>?_⟩
  ·obtain⟨x,hx,e⟩:=this.mp ⟨z,h,rfl⟩;rw[<-S.finj e];exact hx
  ·obtain⟨x,hx,e⟩:=this.mpr ⟨z,h,rfl⟩;rw[<-S.finj e];exact hx
def zk6(f:D->(Option D->Prop)->Prop):List D->List D->(List D->Prop)->Prop
 |[],acc,Q=>Q acc
 |e::es,acc,Q=>f e λo=>match o with
  |some y=>acc.length<300/\KyD y/\zk6 f es (acc ++ [y]) Q
  |none=>zk6 f es acc Q
def zif(g:DTG)(tt:DTT)(ti2:DTF)(is2:List Nat)(g2:DTG)(tt2:DTT)(te:DTE)(σ0:DSt):List D->List D->(List D->Prop)->Prop
 |[],acc,Q=>Q acc
 |d::ds,acc,Q=>g d σ0 λσ1=>tt σ1 λb=>if b=true then ti2 σ1 λes=>zk6 (lcF g2 tt2 te (wg is2 0 σ1)) es acc λacc'=>zif g tt ti2 is2 g2 tt2 te σ0 ds acc' Q else zif g tt ti2 is2 g2 tt2 te σ0 ds acc Q
def zti(k:Nat)(js:List Nat)(ti:DTF)(g:DTG)(tt:DTT)(ti2:DTF)(is2:List Nat)(g2:DTG)(tt2:DTT)(te:DTE):DTF:=λσ Q=>ti σ λds=>zif g tt ti2 is2 g2 tt2 te (y2 k js σ) ds [] λacc=>
 acc.length<=300/\∃(α:Type) (f:α->D) (enc:α->List Int) (xs:List α),SEnc f enc/\acc=xs.map f/\∀zs,vg enc xs zs->Q (zs.map f)
section
variable {X:Cx}{elt tg iter t2 i2:Expr}{ifs ifs2:List Expr}{scope:Scope}{pos:Pos}{cl:List (Str×Addr)}{N' capt:List Str}{k:Nat}{js is is2:List Nat}{ti ti2:DTF}{g g2:DTG}{tt tt2:DTT}{te:DTE}
theorem zk7{σ:St}{σD:DSt}{H₀ H1:Hp}{J:It}{ds:List D}{QD:List D->Prop}{Dd:Addr}(ok:DOk X.K H₀ H1 σD σ)(it:ItOk X.K Same J H1 ds)(his:∀j∈is,j<k)(his2:∀j∈is2,j<k)(hn:H1 Dd=none)(q1:zif g tt ti2 is2 g2 tt2 te (y2 k js σD) ds [] QD):
  zcg X.K J Dd (cnG X.K is g) (cnT X.K tt) (cnI X.K Pers ti2) (cnG X.K is2 g2) (cnT X.K tt2) (cnE X.K te) (z9 k js σ) H1 (λ_ H'=>Same H1 H'/\∃acc bs,H' Dd=some (.mx (SetE Dd bs))/\AccK X.K H' acc bs/\QD acc):=by
 refine⟨λi m σ' H'=>m=ds.length-i/\i<=ds.length/\Same H1 H'/\σ'.length=(z9 k js σ).length/\(∀j,k<=j->σ'[j]?=(z9 k js σ)[j]?)/\∃acc bs,H' Dd=some (.mx (SetE Dd bs))/\AccK X.K H' acc bs/\zif g tt ti2 is2 g2 tt2 te (y2 k js σD) (ds.drop i) acc QD,
  ⟨ds.length,rfl,Nat.zero_le _,z5 hn _,rfl,λ_ _=>rfl,[],[],zq,AccK.nil,q1⟩,?_⟩
 intro i m σ' H' zz;refine gg λG zk=>?_;obtain⟨zem,hi,sm,hl,fr,acc,bs,eD,ra,q1⟩:=zz;refine zk ?_;clear zk;subst zem;have ok1:DOk X.K H1 H' (y2 k js σD) σ':=by
  refine DOk.keepN ((ok.block k js).after sm) hl λj=>?_
  by_cases hj:j<k
  ·left;unfold y2;rw[List.getElem?_append_left (by simpa using hj),List.getElem?_replicate,if_pos hj]
  ·right;exact fr j (by (clear hi hl;lia))
 by_cases hlt:i<ds.length
 ·have e:ds[i]?=some ds[i]:=by simp[hlt]
  obtain⟨go,yl⟩:=it.go H' i ds[i] sm e;refine .inr ⟨go,λx H2 y=>?_⟩;obtain⟨s2,r2⟩:=yl x H2 y;rw[List.drop_eq_getElem_cons hlt]at q1;refine⟨H1,y2 k js σD,ds[i],_,ok1.after s2,r2,q1,λσ2 σD2 l2 ok2 f2 q2=>?_⟩;have fr2:∀j,k<=j->σ2[j]?=(z9 k js σ)[j]?:=λj hj=>by rw[f2 j (λz=>absurd (his j z) (by (clear hl l2;omega))),fr j hj]
  refine⟨H1,σD2,_,ok2,q2,λb H4 s4 q4=>?_⟩
  cases b with
  |false=>
   rw[if_neg Bool.false_ne_true]at q4 ⊢;exact⟨ds.length-(i+1),by (clear hl l2;lia),rfl,hlt,(sm.trans s2).trans s4,l2.trans hl,fr2,acc,bs,s4 _ _ (s2 _ _ eD),(ra.same s2).same s4,q4⟩
  |true=>
   rw[if_pos rfl]at q4 ⊢;refine⟨H1,σD2,_,ok2.after s4,q4,λJ2 H5 es s5 it5 q5=>?_⟩;have ok5:=(ok2.after s4).after s5;refine⟨λi2 n2 σ6 H6=>n2=es.length-i2/\i2<=es.length/\Pers H5 H6/\Same H1 H6/\σ6.length=σ2.length/\(∀j,j∉is2->σ6[j]?=σ2[j]?)/\∃acc bs,H6 Dd=some (.mx (SetE Dd bs))/\AccK X.K H6 acc bs/\zk6 (lcF g2 tt2 te (wg is2 0 σD2)) (es.drop i2) acc (λacc'=>zif g tt ti2 is2 g2 tt2 te (y2 k js σD) (ds.drop (i+1)) acc' QD),
    ⟨es.length,rfl,Nat.zero_le _,Pers.refl _,((sm.trans s2).trans s4).trans s5,rfl,λ_ _=>rfl,acc,bs,s5 _ _ (s4 _ _ (s2 _ _ eD)),((ra.same s2).same s4).same s5,q5⟩,?_⟩
   intro j2 n2 σ6 H6 zz;refine gg λG zk=>?_;obtain⟨zem,hj,p6,sm6,l6,f6,acc,bs,eD6,ra6,q6⟩:=zz;refine zk ?_;clear zk;subst zem;have okB:DOk X.K H1 H6 (wg is2 0 σD2) σ6:=by
    refine DOk.keepN (ok5.dry is2 p6 sm6) l6 λj=>?_
    by_cases hj:j∈is2
    ·by_cases hjl:j<σD2.length
     ·exact .inl (zjp is2 σD2 0 j (by rw[Nat.zero_add];exact hj) hjl)
     ·right;have h1:=ok5.len;rw[List.getElem?_eq_none (by (clear hl l2;lia)),List.getElem?_eq_none (by (clear hl l2 l6;lia))]
    ·exact .inr (f6 j hj)
   by_cases hlt2:j2<es.length
   ·have e2:es[j2]?=some es[j2]:=by simp[hlt2]
    obtain⟨go2,yl2⟩:=it5.go H6 j2 es[j2] p6 e2;refine .inr ⟨go2,λx7 H7 y7=>?_⟩;obtain⟨s7,r7⟩:=yl2 x7 H7 y7;rw[List.drop_eq_getElem_cons hlt2]at q6;refine⟨H1,wg is2 0 σD2,es[j2],_,okB.after s7,r7,q6,λσ8 σD8 l8 ok8 f8 q8=>?_⟩;have fr8:∀j,j∉is2->σ8[j]?=σ2[j]?:=λj hj=>(f8 j hj).trans (f6 j hj);refine⟨H1,σD8,_,ok8,q8,λb H9 s9 q9=>?_⟩
    cases b with
    |false=>
     rw[if_neg Bool.false_ne_true]at q9 ⊢;exact⟨es.length-(j2+1),by (clear hl l2 l6 l8;lia),rfl,hlt2,p6.trans (s7.trans s9).pers,(sm6.trans s7).trans s9,l8.trans l6,fr8,acc,bs,s9 _ _ (s7 _ _ eD6),(ra6.same s7).same s9,q9⟩
    |true=>
     rw[if_pos rfl]at q9 ⊢;refine⟨H1,σD8,_,ok8.after s9,q9,λy H10 dy s10 r10 q10=>?_⟩;have eD10:=s10 _ _ (s9 _ _ (s7 _ _ eD6));have ra10:=((ra6.same s7).same s9).same s10;obtain⟨q10a,q10k,q10⟩:=q10;obtain⟨b,rfl⟩:∃b,y=.ref b:=by
      obtain⟨⟨ds0,e0⟩,_⟩:=q10k;rw[e0]at r10
      cases r10 with
      |tup h r=>exact⟨_,rfl⟩
     refine⟨bs,dy,b,rfl,eD10,ra10.1,r10,q10k,Nat.lt_of_le_of_lt ra10.2.2.2 q10a,λbs' ad=>⟨es.length-(j2+1),by (clear hl l2 l6 l8 q10a;lia),rfl,hlt2,(p6.trans ((s7.trans s9).trans s10).pers).trans (y9 eD10 rfl),?_,l8.trans l6,fr8,acc ++ [dy],bs',zq,?_,q10⟩⟩
     ·exact Same.but (((sm6.trans s7).trans s9).trans s10) hn But.write
     ·exact(ra10.add r10 q10k ad).mono (y9 eD10 rfl)
   ·have e2:j2=es.length:=by (clear hl l2 l6;lia)
    subst e2;rw[List.drop_length]at q6;exact .inl ⟨it5.stop H6 p6,ds.length-(i+1),by (clear hl l2 l6 hj hlt2;omega),rfl,hlt,sm6,(l6.trans l2).trans hl,λj hj=>(f6 j λz=>absurd (his2 j z) (by (clear hl l2 l6;lia))).trans (fr2 j hj),acc,bs,eD6,ra6,q6⟩
 ·have e:i=ds.length:=by (clear hl;lia)
  subst e;rw[List.drop_length]at q1;exact .inl ⟨it.stop H' sm,sm,acc,bs,eD,ra,q1⟩
theorem zig{k':Nat}{p cpos:Pos}(hr:Room k' X.A)(hgl:Gl X "sorted")(hml:X.mg "sorted" = none)(hc:X.calm=true)(L:zc1 X scope cl N' capt k js)
  (hi:DIw X tg iter ti) (hg:∀C fp s2 H2,DG (yd X N' scope cl C fp s2 H2) tg is g) (ht:∀C fp s2 H2,DTs (yd X N' scope cl C fp s2 H2) ifs tt)
  (hi2:∀C fp s2 H2,DI (yd X N' scope cl C fp s2 H2) t2 i2 ti2) (hg2:∀C fp s2 H2,DG (yd X N' scope cl C fp s2 H2) t2 is2 g2) (ht2:∀C fp s2 H2,DTs (yd X N' scope cl C fp s2 H2) ifs2 tt2)
  (he:∀C fp s2 H2,DE (yd X N' scope cl C fp s2 H2) elt te) (his:∀j∈is,j<k:=by decide) (his2:∀j∈is2,j<k:=by decide) (hs2:∀C x,foldedSetIterable i2 (compEnvC scope cl C X.env) x=pure x:=by intro _ _;rfl)
  (hs:∀x,foldedSetIterable iter X.env x=pure x:=by intro _;rfl) (hst:starEach [SC2 elt tg iter t2 i2 ifs ifs2 scope pos] X.env = [(false,eval (SC2 elt tg iter t2 i2 ifs ifs2 scope pos) X.env)]:=by rfl) :
  DF X (.Call (.Name "sorted" p) [SC2 elt tg iter t2 i2 ifs ifs2 scope pos] [] cpos) (zti k js ti g tt ti2 is2 g2 tt2 te) :=
 DF.of (zie (g:=cnG X.K is g) (tt:=cnT X.K tt) (wi2:=cnI X.K Pers ti2) (g2:=cnG X.K is2 g2) (tt2:=cnT X.K tt2) (te:=cnE X.K te) hr hgl hml hc L hi.pi (λC fp s2 H2=>(hg C fp s2 H2).pg) (λC fp s2 H2=>(ht C fp s2 H2).pts) (λC fp s2 H2=>(hi2 C fp s2 H2).pi) (λC fp s2 H2=>(hg2 C fp s2 H2).pg) (λC fp s2 H2=>(ht2 C fp s2 H2).pts) (λC fp s2 H2=>(he C fp s2 H2).pe) hs2 hs hst) λσ H H₀ σD QD ok0 q=>⟨H₀,σD,_,ok0,q,λJ H1 ds s1 it q1 Dd hn=>by
  obtain⟨W,w0,turn⟩:=zk7 (ok0.after s1) it his his2 hn q1;refine⟨W,w0,λi m σ' H' w=>?_⟩;rcases turn i m σ' H' w with⟨st,sm,acc,bs,e2,ra,hl,α,f,enc,xs,S,rfl,qz⟩|h
  ·obtain⟨ys,eb,nd,hm⟩:=AccK.fin S ra;refine .inl ⟨st,α,f,enc,ys,bs,S,e2,ra.1,eb,nd,Nat.le_trans ra.2.2.2 hl,λzs hz d H2 vs' sm2 hd hg3 rp=>⟨d,vs',_,rfl,(s1.trans sm).trans sm2,?_,hg3,rp,qz zs ⟨hz.1,λz=>(hz.2 z).trans (hm z)⟩⟩⟩
   cases z:H d with
   |none=>rfl
   |some u=>rw[(s1.trans sm) d u z]at hd;cases hd
  ·exact .inr h⟩
theorem zk8{β:Type}{F:D->(Option D->Prop)->Prop}(enc:β->D)(f:β->D){acc:List D}{xs:List β}{QD:List D->Prop}(hl:acc.length+xs.length<=300)
  (hF:∀x∈xs,∀Q:Option D->Prop,Q (some (f x))->F (enc x) Q) (hk:∀x∈xs,KyD (f x)) (q:QD (acc++xs.map f)):zk6 F (xs.map enc) acc QD:=by
 induction xs generalizing acc with
 |nil=>rw[List.map_nil,List.append_nil]at q;exact q
 |cons x xs ih=>
  rw[List.length_cons]at hl;refine hF x List.mem_cons_self _ ⟨by lia,hk x List.mem_cons_self,ih (by rw[List.length_append,List.length_singleton];lia) (λy hy=>hF y (List.mem_cons_of_mem _ hy)) (λy hy=>hk y (List.mem_cons_of_mem _ hy)) ?_⟩;rw[List.append_assoc];exact q
end
end L2
namespace PySem
open Sem (wp)
theorem KyAt.extBut{h h':Heap}{a b us ep}(x:KyAt h a us ep)(hs:Heap.ExtBut b h h')(hab:a≠b):KyAt h' a us ep:=let ⟨o,es,ho,r⟩:=x;⟨o,es,hs a o hab ho,r⟩
theorem KyAt.at{h h':Heap}{a us ep}(x:KyAt h a us ep)(e:∀o,h.get? a=some o->h'.get? a=some o):KyAt h' a us ep:=let ⟨o,es,ho,r⟩:=x;⟨o,es,e _ ho,r⟩
theorem KyAt.push{h:Heap}{a us ep}(x:KyAt h a us ep)(o:Obj):KyAt (h.push o) a us ep:=let ⟨o',es,ho,r⟩:=x;⟨o',es,Heap.get?_push_of_some o ho,r⟩
theorem KyAt.lt_size{h:Heap}{a us ep}(x:KyAt h a us ep):a<h.objs.size:=let ⟨_,_,ho,_⟩:=x;Heap.lt_size ho
section
variable {prog:Program}{w:World}{A:Around}{E:Value->Shared->Prop}{s:Shared}
theorem zbj(hh:A.handled=none)(I d:Addr)(hne:d≠I)(kvs:List Value)(ep:Nat):
  Walks prog w A I [I,d] [I] kvs.length (λi v=>kvs[i]?=some v) (λi h=>h.IsKeyIter I d i kvs.length ep/\KyAt h d kvs ep) where
 sub:=λb hb=>by simp at hb;simp[hb]
 frame:=λ_ _ _ st hk=>⟨st.1.at λo e=>hk I (by simp) o e,st.2.at λo e=>hk d (by simp) o e⟩
 item:=λi s Q E hi st hQ=>by
  obtain⟨x,hx⟩:∃p,kvs[i]?=some p:=⟨kvs[i],by simp[hi]⟩
  refine w6 st.1 st.2 hx λh' hit' hs'=>?_;exact hQ x h' s.toks hx ⟨hit',st.2.extBut hs'.extBut hne⟩ λb o hb e=>hs'.extBut b o (λh=>hb (by simp[h])) e
 done:=λs Q E st hQ=>ve hh st.1 st.2 (by simp) λh' he'=>hQ h' s.toks λb o hb e=>he' b o (λh=>hb (by simp[h])) e
 self:=λ_ _ _ _ st hQ=>wpAny_pyIter_keyiter st.1 hQ
end
namespace W
theorem kdl_dictK{prog:Program}{w:World}{d:Addr}{kvs:List Value}{ep:Nat}(lo:(d == sysModules)=false):KdlSrc prog w "dict" d d kvs.length (λi v=>kvs[i]?=some v) (λh=>KyAt h d kvs ep) where
 type:=λ_ hm=>hm.typeIs
 there:=λ_ hm=>⟨hm.lt_size,hm.lt_size⟩
 keep:=λ_ _ hm hk=>hm.at λo e=>hk d (.inl rfl) o e
 notList:=by decide
 notTuple:=by decide
 hint:=λ_ _ _ _ hm hq=>kdl_hint_dict hm.typeIs hq
 iter:=λ_ _ hh hm=>⟨_,_,(λ_ _ hq=>jl lo hm hq),zbj hh _ d (Nat.ne_of_lt hm.lt_size) kvs ep,⟨⟨_,Heap.get?_push_size _ rfl,rfl,rfl⟩,hm.push _⟩⟩
end W
end PySem
namespace L2
open PySem PySem.Spec PyProof.Rows SQ STB SV
noncomputable local instance decDi:DecidableEq PyData:=decD
theorem Paired.mapB{α β γ δ:Type}{R:α->β->Prop}{S:γ->δ->Prop}(f:α->γ)(g:β->δ)(h:∀a b,R a b->S (f a) (g b)){l:List α}{m:List β}(p:Paired R l m):Paired S (l.map f) (m.map g):=by
 induction p with
 |nil=>exact .nil
 |cons r t ih=>exact .cons (h _ _ r) ih
theorem Paired.snocB{α β:Type}{R:α->β->Prop}{a:α}{b:β}(r:R a b){l:List α}{m:List β}(p:Paired R l m):Paired R (l ++ [a]) (m ++ [b]):=by
 induction p with
 |nil=>exact .cons r .nil
 |cons q t ih=>exact .cons q ih
theorem Paired.keysB{ps:List (D×Addr×V)}{xs:List (D×Addr×Value)}(h:Paired (λ(p:D×Addr×V) (q:D×Addr×Value)=>p.1=q.1/\p.2.1=q.2.1/\RelV p.2.2 q.2.2) ps xs):xs.map (λx=>(x.1,x.2.1))=ps.map λp=>(p.1,p.2.1):=by
 induction h with
 |nil=>rfl
 |cons r t ih=>rw[List.map_cons,List.map_cons,ih,r.1,r.2.1]
noncomputable def znx (d:D) (v:V) (p:D×Addr×V):D×Addr×V:=@ite _ (p.1=d) (decD p.1 d) (p.1,p.2.1,v) p
def ztj(ps:List (D×Addr×V))(d:D)(b:Addr)(v:V)(ps':List (D×Addr×V)):Prop:=((∃p∈ps,p.1=d)/\ps'=ps.map (znx d v))\/((∀p∈ps,p.1≠d)/\ps'=ps ++ [(d,b,v)])
noncomputable def zd0 (d e:D) (p:D×D):D×D:=@ite _ (p.1=d) (decD p.1 d) (p.1,e) p
def zny(ks:List (D×D))(d e:D)(ks':List (D×D)):Prop:=((∃p∈ks,p.1=d)/\ks'=ks.map (zd0 d e))\/((∀p∈ks,p.1≠d)/\ks'=ks ++ [(d,e)])
theorem DcE.ok{a:Addr}{ps:List (D×Addr×V)}{P:Program}{w:World}{H:Hp}{h:Heap}(x:DcE a ps P w h):ObjOk P w H h a (.mx (DcE a ps)) :=
 by
 refine⟨x,?_,λh1 h2 y k=>?_⟩
 ·obtain⟨_,_,o,_,_,ho,_⟩:=x;exact⟨o,ho⟩
 ·obtain⟨xs,p,o,es,ep,ho,r⟩:=y;exact⟨xs,p,o,es,ep,k _ ho,r⟩
section
variable {X:Cx}
theorem ztk{pins:List (Addr×Obj)}{σ:St}{H:Hp}{s:Shared}{E:Value->Shared->Prop}{Q:Unit->Shared->Prop}{a b:Addr}{ps:List (D×Addr×V)}{d:D}{v:V}{r:Value}(hu:X.A.units+16<cLine)(I:Inv X pins σ H s)(ha:H a=some (.mx (DcE a ps)))
  (hb:∀p∈ps,Rep X.K H p.1 (.ref p.2.1)/\KyD p.1) (hr:Rep X.K H d (.ref b)) (hk:KyD d) (rv:RelV v r) (hl:ps.length<sizeLine) (q:∀ps' s',ztj ps d b v ps'->Inv X pins σ (upd H a (.mx (DcE a ps'))) s'->Q () s') :
  wpAny (model X.prog X.w) X.A (setItem (.ref a) (.ref b) r) Q E s:=by
 obtain⟨xs,pr,o,es,ep,ho,hex,hd,he,nd,lo,_⟩:=(show DcE a ps X.prog X.w s.heap from(I.hok a _ ha).1)
 have hlen:=Paired.length pr;have keys:=Paired.keysB pr;have dd:s.heap.DictOfH (znk X.prog X.w).toHeapKind a xs:=⟨o,es,ep,ho,hex,hd,he,λx hx=>by
  have hm:(x.1,x.2.1)∈ps.map λp=>(p.1,p.2.1):=by rw[<-keys];exact List.mem_map.mpr ⟨x,hx,rfl⟩
  obtain⟨p,hp,e⟩:=List.mem_map.mp hm;have e1:=(Prod.mk.inj e).1;have e2:=(Prod.mk.inj e).2;rw[<-e1,<-e2];exact zah I (hb p hp).1 (hb p hp).2,nd⟩
 refine wpAny_setItem_heap (hsz:=by rw[<-hlen];omega) (show X.A.in1.units+8<cLine by rw[Around.in1_units];lia) (zah I hr hk) dd λh' dd' sb=>?_;obtain⟨o',es',ep',ho',hex',hd',he',_,nd'⟩:=dd';have hkeys:xs.map (·.1)=ps.map (·.1):=by
  have:=congrArg (List.map Prod.fst) keys
  rwa [List.map_map,List.map_map]at this
 have fin:∀ps',ztj ps d b v ps'->ps'.length<=sizeLine->Paired (λ(p:D×Addr×V) (q:D×Addr×Value)=>p.1=q.1/\p.2.1=q.2.1/\RelV p.2.2 q.2.2) ps' (@storedH PyData decD xs d b r)->Q () { s with heap:=h',toks:=s.toks+(znk X.prog X.w).draws d }:=λps' hp hl' pr'=>
  q ps' _ hp (I.write (x:=a) (e:=a) (by rw[ha];exact trivial) (.inl rfl) (λc u hc z=>(sb.2 c hc).trans z) ⟨_,ho'⟩ (DcE.ok ⟨_,pr',o',es',ep',ho',hex',hd',he',nd',lo,hl'⟩))
 by_cases c:∃p∈ps,p.1=d
 ·refine fin _ (.inl ⟨c,rfl⟩) (by rw[List.length_map];omega) ?_
  have hs:∃p,@atKey PyData decD xs d=some p:=by
   cases e : @atKey PyData decD xs d with
   |some p=>exact⟨p,rfl⟩
   |none=>
    exfalso;obtain⟨p,hp,hpd⟩:=c;have hm:d∈xs.map (·.1):=by rw[hkeys,<-hpd];exact List.mem_map.mpr ⟨p,hp,rfl⟩
    obtain⟨x,hx,e1⟩:=List.mem_map.mp hm;unfold atKey at e;rw[Option.map_eq_none_iff,List.find?_eq_none]at e;exact e x hx (by rw[e1];simp)
  obtain⟨p,hp⟩:=hs;rw[storedH_old hp];refine Paired.mapB _ _ (λp q h=>?_) pr;unfold znx putAt
  by_cases z:q.1=d
  ·rw[if_pos z,if_pos (h.1.trans z)];exact⟨h.1,h.2.1,rv⟩
  ·rw[if_neg z,if_neg (λy=>z (h.1.symm.trans y))];exact h
 ·have c':∀p∈ps,p.1≠d:=λp hp z=>c ⟨p,hp,z⟩;refine fin _ (.inr ⟨c',rfl⟩) (by rw[List.length_append,List.length_singleton];lia) ?_
  have hs : @atKey PyData decD xs d=none:=by
   unfold atKey;rw[Option.map_eq_none_iff,List.find?_eq_none];intro x hx z;have hm:x.1∈ps.map (·.1):=by rw[<-hkeys];exact List.mem_map.mpr ⟨x,hx,rfl⟩
   obtain⟨p,hp,e1⟩:=List.mem_map.mp hm;exact c' p hp (e1.trans (of_decide_eq_true z))
  rw[storedH_new hs];exact Paired.snocB ⟨rfl,rfl,rv⟩ pr
def dKyR(K:PySem.W.Frag)(H:Hp)(ps:List (D×Addr×V))(ks:List (D×D)):Prop:=ps.map (·.1)=ks.map (·.1)/\Reps K H (ks.map (·.1)) (ps.map λp=>V.ref p.2.1)/\Reps K H (ks.map (·.2)) (ps.map (·.2.2))
theorem dKyR.nil{K:PySem.W.Frag}{H:Hp}:dKyR K H [] []:=⟨rfl,.nil,.nil⟩
theorem dKyR.cons{K:PySem.W.Frag}{H:Hp}{p:D×Addr×V}{k:D×D}{ps:List (D×Addr×V)}{ks:List (D×D)}(h1:p.1=k.1)(h2:Rep K H k.1 (.ref p.2.1))(h3:Rep K H k.2 p.2.2)(t:dKyR K H ps ks):dKyR K H (p::ps) (k::ks) :=
 ⟨by rw[List.map_cons,List.map_cons,h1,t.1],.cons h2 t.2.1,.cons h3 t.2.2⟩
theorem dKyR.mono{K:PySem.W.Frag}{H H':Hp}(pr:Pers H H'){ps:List (D×Addr×V)}{ks:List (D×D)}(h:dKyR K H ps ks):dKyR K H' ps ks:=⟨h.1,h.2.1.mono pr,h.2.2.mono pr⟩
theorem dKyR.ind{K:PySem.W.Frag}{H:Hp}{P:List (D×Addr×V)->List (D×D)->Prop}(n:P [] [])(c:∀(q:D×Addr×V) (k:D×D) ps ks,q.1=k.1->Rep K H k.1 (.ref q.2.1)->Rep K H k.2 q.2.2->P ps ks->P (q::ps) (k::ks)){ps:List (D×Addr×V)}{ks:List (D×D)}(h:dKyR K H ps ks):P ps ks:=by
 induction ps generalizing ks with
 |nil=>
  cases ks with
  |nil=>exact n
  |cons k ks=>exact absurd h.1 (by simp)
 |cons q ps ih=>
  cases ks with
  |nil=>exact absurd h.1 (by simp)
  |cons k ks=>
   have h1:=h.1;have h2:=h.2.1;have h3:=h.2.2;rw[List.map_cons,List.map_cons,List.cons.injEq]at h1
   cases h2 with|cons r2 t2=>
   cases h3 with|cons r3 t3=>exact c q k ps ks h1.1 r2 r3 (ih ⟨h1.2,t2,t3⟩)
theorem dKyR.all{K:PySem.W.Frag}{H:Hp}{ps:List (D×Addr×V)}{ks:List (D×D)}(h:dKyR K H ps ks):∀p∈ps,Rep K H p.1 (.ref p.2.1) :=
 h.ind (P:=λps _=>∀p∈ps,Rep K H p.1 (.ref p.2.1)) (λp hp=>absurd hp List.not_mem_nil) λq k ps ks h1 r2 _ ih p hp=>by
  rcases List.mem_cons.mp hp with rfl|hp
  ·rw[h1];exact r2
  ·exact ih p hp
theorem dKyR.set{K:PySem.W.Frag}{H:Hp}{d e:D}{v:V}(rv:Rep K H e v){ps:List (D×Addr×V)}{ks:List (D×D)}(h:dKyR K H ps ks):dKyR K H (ps.map (znx d v)) (ks.map (zd0 d e)) :=
 h.ind (P:=λps ks=>dKyR K H (ps.map (znx d v)) (ks.map (zd0 d e))) .nil λq k ps ks h1 r2 r3 ih=>by
  rw[List.map_cons,List.map_cons];unfold znx zd0
  by_cases z:k.1=d
  ·rw[if_pos z,if_pos (h1.trans z)];exact .cons h1 r2 rv ih
  ·rw[if_neg z,if_neg (λy=>z (h1.symm.trans y))];exact .cons h1 r2 r3 ih
theorem dKyR.snoc{K:PySem.W.Frag}{H:Hp}{d e:D}{b:Addr}{v:V}(rk:Rep K H d (.ref b))(rv:Rep K H e v){ps:List (D×Addr×V)}{ks:List (D×D)}(h:dKyR K H ps ks):dKyR K H (ps ++ [(d,b,v)]) (ks ++ [(d,e)]):=by
 obtain⟨h1,h2,h3⟩:=h;refine⟨by rw[List.map_append,List.map_append,h1];rfl,?_,?_⟩
 ·rw[List.map_append,List.map_append];exact h2.append (.cons rk .nil)
 ·rw[List.map_append,List.map_append];exact h3.append (.cons rv .nil)
theorem dKyR.put{K:PySem.W.Frag}{H:Hp}{d e:D}{b:Addr}{v:V}{ps ps':List (D×Addr×V)}{ks:List (D×D)}(h:dKyR K H ps ks)(rk:Rep K H d (.ref b))(rv:Rep K H e v)(p:ztj ps d b v ps'):∃ks',zny ks d e ks'/\dKyR K H ps' ks':=by
 have km:∀{x},(∃p∈ps,p.1=x)↔∃k∈ks,k.1=x:=λ{x}=>by
  rw[<-List.mem_map (f:=λp:D×Addr×V=>p.1),<-List.mem_map (f:=λp:D×D=>p.1),h.1]
 rcases p with⟨c,rfl⟩ |⟨c,rfl⟩
 ·exact⟨_,.inl ⟨km.mp c,rfl⟩,h.set rv⟩
 ·refine⟨_,.inr ⟨λk hk z=>?_,rfl⟩,h.snoc rk rv⟩;obtain⟨p,hp,e⟩:=km.mpr ⟨k,hk,z⟩;exact c p hp e
def zih(i:Nat):DTS:=λDn σ=>Dn.nx (σ.set i (some (.own (.dcD []))))
theorem zqc{P:Program}{w:World}{H:Hp}(h:Heap)(hb:sysModules<h.objs.size):ObjOk P w H (h.push { cls:=.type "dict",data:=.dict #[] }) h.objs.size (.mx (DcE h.objs.size [])) :=
 DcE.ok ⟨[],.nil,_,#[],0,Heap.get?_push_size _ rfl,⟨rfl,rfl,rfl⟩,rfl,rfl,List.nodup_nil,by simpa using Nat.ne_of_gt hb,Nat.zero_le _⟩
def ztl:TE:=λ_ H Q=>∀p,H p=none->Q (.ref p) (upd H p (.mx (DcE p [])))
theorem znz{p2:Pos}:PE X (.Dict [] [] p2) ztl:=λpins s σ H Q I h=>
 wpAny_Dict_empty ⟨.ref s.heap.objs.size,_,I.laid (a:=s.heap.objs.size) (o:=.mx (DcE s.heap.objs.size [])) (t':=s.toks) (λ_ _ q=>Heap.get?_push_of_some _ q) (Nat.le_refl _) (zqc s.heap I.big),rfl,h _ (I.hok.fresh (Nat.le_refl _))⟩
theorem zn0{i:Nat}{x:Str}{pos pos' p2:Pos}(hN:X.N.Nodup)(hi:X.N[i]?=some x)(hx:Loc X.env.scope x)(hs:swapsWith (.Dict [] [] p2) (some (.Name x pos')) pos.line X.env=pure false:=by rfl)(hf:X.fn x=true\/X.env.scope.names.lookup x=some .local:=by first|exact .inl rfl|exact .inr rfl|assumption):
  DS X (.Assign [.Name x pos'] (.Dict [] [] p2) pos) (zih i) :=
 DS.of (zam hN hi hx znz hs hf) λσ H H₀ σD Dn ok q=>λp hp=>⟨_,DOk.setF ok (z5 hp _) (o:=.dcD []) (f:=[p]) (λb hb=>by rw[List.mem_singleton.mp hb];exact hp) (List.nodup_cons.mpr ⟨λz=>(nomatch z),List.nodup_nil⟩) ⟨p,[],rfl,rfl,zq,rfl,.nil,.nil⟩ i,(z5 hp _).pers,q⟩
theorem DOk.dcD{K:PySem.W.Frag}{H H₀:Hp}{σD:DSt}{σ:St}{i:Nat}{xs:List (D×D)}(ok:DOk K H₀ H σD σ)(e:σD[i]?=some (some (.own (.dcD xs)))):
  ∃a ps,σ[i]?=some (some (.ref a))/\H a=some (.mx (DcE a ps))/\dKyR K H ps xs/\∀qs ys,dKyR K H qs ys->DOk K H₀ (upd H a (.mx (DcE a qs))) (L2.clr (σD.set i (some (.own (.dcD ys))))) σ/\Pers H (upd H a (.mx (DcE a qs))):=by
 obtain⟨v,f,ev,rO,nf,fr,put⟩:=ok.focus e;obtain⟨a,ps,rfl,rfl,ea,r⟩:=rO;refine⟨a,ps,ev,ea,r,λqs ys r2=>put (upd H a (.mx (DcE a qs))) (.dcD ys) [a] (λb u hb hu=>by rw[zv (λz=>hb (by rw[z];exact List.mem_cons_self))];exact hu) nf (λb hb=>.inl hb) ⟨a,qs,rfl,rfl,zq,?_⟩⟩;exact r2.mono (y9 ea rfl)
def ze0(i:Nat)(tk tv:DTE):DTS:=λDn σ=>tv σ λe=>match σ[i]? with
 |some (some (.own (.dcD ks)))=>tk σ λd=>KyD d/\(∀p∈ks,KyD p.1)/\ks.length<sizeLine/\∀ks',zny ks d e ks'->Dn.nx (clr (σ.set i (some (.own (.dcD ks')))))
 |_=>False
theorem zn1(i:Nat){x:Str}{k e:Expr}{tk tv:DTE}{p1 pos pos':Pos}{m:Nat}(hr:Room m X.A)(hk:DE X k tk)(hv:DE X e tv)(hN:X.N[i]?=some x:=by rfl)(hvis:Vis X.env.scope x:=by first|exact Or.inl rfl|exact Or.inr (Or.inl rfl)|exact Or.inr (Or.inr rfl))(hd:(x ==("__debug__" : Str))=false:=by decide)(hcd:(x ==("__classdict__" : Str))=false:=by decide)
  (hs:swapsWith e (some (.Subscript (.Name x p1) k pos')) pos.line X.env=pure false:=by rfl) :
  DS X (.Assign [.Subscript (.Name x p1) k pos'] e pos) (ze0 i tk tv):=⟨λpins s σ H H₀ σD Dn I ok q=>by
 have hu:X.A.units+16<cLine:=by have:=hr.un;omega
 unfold ze0 at q;refine wpAny_Assign_Subscript (thn (hv.run pins s σ H H₀ σD _ I ok q) λr s1 z1=>?_) hs;obtain⟨v,H1,e,I1,rv,sm1,re,q1⟩:=z1;refine thn (y4 (i:=i) (pos:=p1) hN hvis hd hcd pins s1 σ H1 (λx H'=>H'=H1/\∃ks a,σD[i]?=some (some (.own (.dcD ks)))/\x=.ref a/\σ[i]?=some (some (.ref a))) I1 ?_) λu s2 z2=>?_
 ·split at q1
  ·next ks eo=>
   obtain⟨a,ps,e1,_⟩:=(ok.after sm1).dcD eo;exact⟨_,e1,rfl,ks,a,eo,rfl,e1⟩
  ·exact q1.elim
 ·obtain⟨x,H2,I2,rx,eH,ks,a,eo,ex,ea⟩:=z2;subst eH ex;rw[eo]at q1;obtain rfl:u=Value.ref a:=rx;refine thn (hk.run pins s2 σ H2 H₀ σD _ I2 (ok.after sm1) q1) λiv s3 z3=>?_;obtain⟨y,H3,d,I3,ry,sm3,rd,kd,ka,hl,q3⟩:=z3;have ok3:=(ok.after sm1).after sm3;obtain⟨a',ps,ea',ha,kr,put⟩:=ok3.dcD eo;rw[ea]at ea'
  cases ea';obtain⟨b,rfl⟩:∃b,y=.ref b:=by
   obtain⟨⟨ds0,e0⟩,_⟩:=kd;rw[e0]at rd
   cases rd with
   |tup h r=>exact⟨_,rfl⟩
  cases ry;have re3:=re.same sm3;have hlp:ps.length=ks.length:=by have:=congrArg List.length kr.1;rwa [List.length_map,List.length_map]at this
  have hky:∀p∈ps,KyD p.1:=λp hp=>by
   have hm:p.1∈ks.map (·.1):=by rw[<-kr.1];exact List.mem_map.mpr ⟨p,hp,rfl⟩
   obtain⟨k0,hk0,e0⟩:=List.mem_map.mp hm;rw[<-e0];exact ka k0 hk0
  refine ztk hu I3 ha (λp hp=>⟨kr.all p hp,hky p hp⟩) rd kd rv (by lia) λps' s4 hp I4=>?_;obtain⟨ks',h1,h2⟩:=kr.put rd re3 hp;obtain⟨ok4,pr⟩:=put ps' ks' h2;exact⟨σ,_,_,I4,ok4,(sm1.trans sm3).pers.trans pr,q3 ks' h1⟩⟩
def zqd(i:Nat):DTF:=λσ Q=>match σ[i]? with
 |some (some (.own (.dcD ks)))=>Q (ks.map (·.1))
 |_=>False
theorem zk9(i:Nat){x:Str}{p p1 pos:Pos}(hgl:Gl X "list")(hml:X.mg "list" = none)(hc:X.calm=true)(hN:X.N[i]?=some x:=by rfl)(hvis:Vis X.env.scope x:=by first|exact Or.inl rfl|exact Or.inr (Or.inl rfl)|exact Or.inr (Or.inr rfl))(hd:(x ==("__debug__" : Str))=false:=by decide)(hcd:(x ==("__classdict__" : Str))=false:=by decide)
  (hs2:starEach [.Name x p1] X.env = [(false,eval (.Name x p1) X.env)]:=by rfl) :
  DF X (.Call (.Name "list" p) [.Name x p1] [] pos) (zqd i):=⟨λpins s σ H H₀ σD Q I ok q=>by
 unfold zqd at q
 split at q
 ·next ks eo=>
  obtain⟨a,ps,e1,ha,kr,_⟩:=ok.dcD eo;refine Call_ (jb I hgl hml PyProof.Rows.boot_list (PyProof.Rows.callWith_type1 ?_ hs2 rfl));rw[hs2];show wpAny _ _ (spliced ((false,eval (.Name x p1) X.env)::backTo pos [])) _ _ s;refine Calls.spliced_cons (thn (y4 (i:=i) (pos:=p1) hN hvis hd hcd pins s σ H (λx H'=>H'=H/\x=.ref a) I ⟨_,e1,rfl,rfl⟩) λu s1 ⟨y,H1,I1,rx,eH,ex⟩=>?_);subst eH ex;obtain rfl:u=Value.ref a:=rx;obtain⟨xs,pr,o,es,ep,ho,hex,hdd,he,nd,lo,hz⟩:=(show DcE a ps X.prog X.w s1.heap from(I1.hok a _ ha).1)
  refine Calls.spliced_nil ?_;have ky:KyAt s1.heap a (ps.map λp=>Value.ref p.2.1) ep:=⟨o,es,ho,hex,hdd,by
   rw[he,List.map_map];have:=congrArg (List.map λz:D×Addr=>Value.ref z.2) (Paired.keysB pr);rw[List.map_map,List.map_map]at this;exact this⟩
  refine PySem.W.kdl_call (PySem.W.kdl_dictK (ep:=ep) lo) (I.ok.hd hc) ky (by rw[List.length_map];exact hz) λh' tk acc' c' hk hS hacc=>?_;have hf:H1 s1.heap.objs.size=none:=I1.hok.fresh (Nat.le_refl _);have ea:acc'.toList=ps.map λp=>Value.ref p.2.1:=SV.items_eq rfl hacc;refine⟨_,upd H1 _ (.lst (ps.map λp=>V.ref p.2.1)),_,_,rfl,I1.laid (t':=tk) (λb u e=>hk _ _ e) (Nat.le_refl _) ⟨by rw[List.length_map];exact hz,acc'.toList,c',?_,by simpa using hS⟩,z5 hf _,hf,zq,kr.2.1.same (z5 hf _),q⟩;rw[ea];clear ea hacc kr ky pr he hz eo ha
  induction ps with
  |nil=>exact .nil
  |cons p ps ih=>exact .cons rfl ih
 ·exact q.elim⟩
def zch(ds:List D)(Q:List D->Prop):Prop:=∃(α:Type) (f:α->D) (enc:α->List Int) (xs:List α),SEnc f enc/\ds=xs.map f/\∀zs:List α,zs.Perm xs->((zs.map enc).Pairwise λa b=>¬ b<a)->Q (zs.map f)
def zii:List D->(List D->Prop)->Prop
 |[.list ds],Q=>zch ds Q
 |[.tuple ds],Q=>zch ds Q
 |_,_=>False
theorem zd1{k:Nat}(hr:Room k X.A){pins:List (Addr×Obj)}{σ:St}{H:Hp}{s:Shared}{Q:List D->Prop}{ds:List D}{vs:List V}{its:List Value}{a:Addr}{T:String}{o:Obj}{n:Nat}(I:Inv X pins σ H s)(r:Reps X.K H ds vs)(rvs:Vals vs its)(hT:T = "list" \/ T = "tuple")(ho:s.heap.get? a=some o)(hc:o.cls=.type T)(hd:o.data=.seq its.toArray n)(hz:vs.length<=sizeLine)(q:zch ds Q):
  wpAny (model X.prog X.w) X.A (call (.builtin "sorted") [.ref a]) (zfp X pins σ H Q) X.xe s:=by
 obtain⟨α,f,enc,xs,S,rfl,q⟩:=q;have rf:=zey I S.ky r rvs;have hky:∀v∈its,∃x,xb s.heap (f x) v:=λv hv=>by
  obtain⟨x,_,h⟩:=rf.mem hv;exact⟨x,h⟩
 have hk:∀v∈its,∃k,(zc6 f enc s.heap).keyOf v=some k:=λv hv=>by
  obtain⟨x,h⟩:=hky v hv;exact⟨_,zax S h⟩
 refine zm3 (κ:=zc6 f enc s.heap) (kd:=tuples' true) hT ho hc hd (by rw[<-rvs.length];exact hz) (λA' h' hu k=>zj0 S (by have:=hr.un;(clear hz;lia)) k) (zac hk) (λh2 A' E' h' Q' k q=>znt S (λv hv=>(hky v hv).imp λx h=>vf (λb o g _ _=>k b o g) _ _ h) h2 q) λout h' p e p1 p2 hp g k=>?_;obtain⟨pm,ks,a2,pw⟩:=zds p1 p2 hk;obtain⟨vs',ds',rv',r',pd⟩:=zar pm rvs r;obtain⟨zs,rfl,pms⟩:=zay pd rfl;have hn:=I.hok.fresh hp;have lv:vs'.length<=sizeLine:=by rw[rv'.length,pm.length_eq,<-rvs.length];exact hz
 exact⟨p,_,vs',_,rfl,I.laid (t':=s.toks) (o:=.lst vs') k hp ⟨lv,(out.map (·.2)).toList,e,rv',g⟩,z5 hn _,hn,zq,r'.same (z5 hn _),q zs pms (znw S (zey I S.ky r' rv') a2 pw)⟩
theorem zbx{k:Nat}(hr:Room k X.A):CallF X (.builtin "sorted") zii:=⟨λpins s σ H vs us ds Q I rv rd q=>by
 match ds,q,rd with
 |[.list ds],q,rd=>
  obtain⟨v,rfl,r⟩:=rd.one;obtain⟨a,vs,rfl,h,r⟩:=r.list.sq;obtain⟨u,rfl,r1⟩:=rv.one
  cases r1;obtain⟨its,rvs,pl,hz⟩:=I.list h;obtain⟨o,ho,hc,n,hd⟩:=pl.isList;exact zd1 hr I r rvs (.inl rfl) ho hc hd hz q
 |[.tuple ds],q,rd=>
  obtain⟨v,rfl,r⟩:=rd.one;obtain⟨a,vs,rfl,h,r⟩:=r.tuple;obtain⟨u,rfl,r1⟩:=rv.one
  cases r1;obtain⟨its,rvs,⟨o,ho,hc,n,hd⟩,hz⟩:=I.tuple h;exact zd1 hr I r rvs (.inr rfl) ho hc hd hz q⟩
end
end L2
namespace My
open PySem L2 PyProof.Rows
def top(i:Nat):Stmt:=PySem.Challenge.pw_knockpurse_k76_calm_behind_healing.main.body.getD i (.Pass ⟨0,0,0,0⟩)
abbrev zaz:Stmt:=top 4
theorem sc_growing:z4 ["gaps", "many", "first", "times", "more", "most", "row", "further"] ["gaps", "many"] (zl zaz):=⟨rfl,rfl,rfl,by decide +kernel,rfl,by decide +kernel,by decide +kernel⟩
abbrev zci:Stmt:=top 5
theorem zla:z4 ["gaps", "k"] ["gaps", "k"] (zl zci):=⟨rfl,rfl,rfl,by decide +kernel,rfl,by decide +kernel,by decide +kernel⟩
abbrev zij:Stmt:=top 13
theorem sc_lets:z4 ["gate", "standing", "beat", "word", "until", "now"] ["gate", "standing", "beat"] (zl zij):=⟨rfl,rfl,rfl,by decide +kernel,rfl,by decide +kernel,by decide +kernel⟩
abbrev ze1:Stmt:=top 14
theorem zn2:z4 ["gate", "standing", "beat", "answered"] ["gate", "standing", "beat", "answered"] (zl ze1):=⟨rfl,rfl,rfl,by decide +kernel,rfl,by decide +kernel,by decide +kernel⟩
abbrev vh:Stmt:=top 15
theorem sc_heard_open:z4 ["gate", "bad", "beat", "answered", "fails", "rest", "times", "most", "trials"] ["gate", "bad", "beat", "answered"] (zl vh):=⟨rfl,rfl,rfl,by decide +kernel,rfl,by decide +kernel,by decide +kernel⟩
abbrev wc:Stmt:=top 16
theorem sc_heard_trying:z4 ["gate", "standing", "beat", "answered", "fails", "rest", "times", "most", "trials", "word", "good", "now", "then"] ["gate", "standing", "beat", "answered"] (zl wc):=⟨rfl,rfl,rfl,by decide +kernel,rfl,by decide +kernel,by decide +kernel⟩
abbrev wr:Stmt:=top 20
theorem zcj:z4 ["purse", "coins", "many"] ["purse", "coins", "many"] (zl wr):=⟨rfl,rfl,rfl,by decide +kernel,rfl,by decide +kernel,by decide +kernel⟩
abbrev za0:Stmt:=top 21
theorem zik:z4 ["purse", "coins"] ["purse", "coins"] (zl za0):=⟨rfl,rfl,rfl,by decide +kernel,rfl,by decide +kernel,by decide +kernel⟩
abbrev jm:Stmt:=top 22
theorem zgn:z4 ["purse", "coins", "sign"] ["purse", "coins", "sign"] (zl jm):=⟨rfl,rfl,rfl,by decide +kernel,rfl,by decide +kernel,by decide +kernel⟩
abbrev jn:Stmt:=top 25
theorem sc_first_of:z4 ["caller", "plan", "purse", "gate"] ["caller"] (zl jn):=⟨rfl,rfl,rfl,by decide +kernel,rfl,by decide +kernel,by decide +kernel⟩
abbrev za1:Stmt:=top 26
theorem sc_knocked:z4 ["gate", "standing", "beat", "sound", "through", "standing_then"] ["gate", "standing", "beat", "sound"] (zl za1):=⟨rfl,rfl,rfl,by decide +kernel,rfl,by decide +kernel,by decide +kernel⟩
abbrev za2:Stmt:=top 27
theorem sc_what_of:z4 ["caller", "coins", "beat", "begin", "tries", "gaps", "knocks", "time", "purse", "gate", "due"] ["caller", "coins", "beat", "begin", "tries"] (zl za2):=⟨rfl,rfl,rfl,by decide +kernel,rfl,by decide +kernel,by decide +kernel⟩
abbrev ze2:Stmt:=top 28
theorem sc_tried:z4 ["caller", "standing", "sound", "number", "begin", "tries", "beat", "waiting", "coins", "at_gate", "begun", "word", "what"] ["caller", "standing", "sound", "number", "begin", "tries"] (zl ze2):=⟨rfl,rfl,rfl,by decide +kernel,rfl,by decide +kernel,by decide +kernel⟩
abbrev ze3:Stmt:=top 29
theorem sc_asked:z4 ["caller", "standing", "beat", "waiting", "coins", "at_gate", "begun"] ["caller", "standing"] (zl ze3):=⟨rfl,rfl,rfl,by decide +kernel,rfl,by decide +kernel,by decide +kernel⟩
abbrev za3:Stmt:=top 30
theorem sc_stepped:z4 ["caller", "standing", "sound", "many", "beat", "waiting", "coins", "at_gate", "begun", "due", "then", "events", "number", "begin", "tries", "event"] ["caller", "standing", "sound", "many"] (zl za3):=⟨rfl,rfl,rfl,by decide +kernel,rfl,by decide +kernel,by decide +kernel⟩
abbrev xp:Stmt:=top 32
theorem sc_standings_ahead:z4 ["caller", "beginnings", "layers", "many", "ahead", "behind"] ["caller", "beginnings"] (zl xp):=⟨rfl,rfl,rfl,by decide +kernel,rfl,by decide +kernel,by decide +kernel⟩
abbrev qe:Stmt:=top 33
theorem sc_calm_from:z4 ["caller", "beginnings", "gates"] ["caller", "beginnings"] (zl qe):=⟨rfl,rfl,rfl,by decide +kernel,rfl,by decide +kernel,by decide +kernel⟩
abbrev wd:Stmt:=top 35
theorem zbk:z4 ["_law_script", "_law_k"] ["_law_script", "_law_k"] (zl wd):=⟨rfl,rfl,rfl,by decide +kernel,rfl,by decide +kernel,by decide +kernel⟩
abbrev qf:Stmt:=top 36
theorem sc__law_next:z4 ["_law_seed"] ["_law_seed"] (zl qf):=⟨rfl,rfl,rfl,by decide +kernel,rfl,by decide +kernel,by decide +kernel⟩
abbrev wt:Stmt:=top 37
theorem sc__law_pen_of:z4 ["_law_cell", "_law_left"] ["_law_cell"] (zl wt):=⟨rfl,rfl,rfl,by decide +kernel,rfl,by decide +kernel,by decide +kernel⟩
abbrev qg:Stmt:=top 38
theorem sc__law_draw:z4 ["_law_pen", "_law_many", "_law_found"] ["_law_pen", "_law_many"] (zl qg):=⟨rfl,rfl,rfl,by decide +kernel,rfl,by decide +kernel,by decide +kernel⟩
abbrev wu:Stmt:=top 39
theorem sc__law_caller:z4 ["_law_pen", "_law_gaps", "_law_plan", "_law_cap", "_law_rest", "_law_purse", "_law_gate"] ["_law_pen"] (zl wu):=⟨rfl,rfl,rfl,by decide +kernel,rfl,by decide +kernel,by decide +kernel⟩
abbrev jo:Stmt:=top 40
theorem sc__law_gap:z4 ["_law_gaps", "_law_k", "_law_gap_here", "_law_turn"] ["_law_gaps", "_law_k"] (zl jo):=⟨rfl,rfl,rfl,by decide +kernel,rfl,by decide +kernel,by decide +kernel⟩
abbrev qh:Stmt:=top 41
theorem sc__law_hear:z4 ["_law_gate", "_law_now", "_law_beat", "_law_sound", "_law_bad", "_law_rest"] ["_law_gate", "_law_now", "_law_beat", "_law_sound"] (zl qh):=⟨rfl,rfl,rfl,by decide +kernel,rfl,by decide +kernel,by decide +kernel⟩
abbrev jq:Stmt:=top 42
theorem sc__law_try:z4 ["_law_caller_here", "_law_state", "_law_sound", "_law_one", "_law_plan", "_law_purse", "_law_gate", "_law_number", "_law_begin", "_law_tries", "_law_word", "_law_what", "_law_due"] ["_law_caller_here", "_law_state", "_law_sound", "_law_one"] (zl jq):=⟨rfl,rfl,rfl,by decide +kernel,rfl,by decide +kernel,by decide +kernel⟩
abbrev qi:Stmt:=top 43
theorem sc__law_step:z4 ["_law_caller_here", "_law_standing", "_law_sound", "_law_many", "_law_beat", "_law_waiting", "_law_coins", "_law_now", "_law_begun", "_law_state", "_law_events", "_law_turn"] ["_law_caller_here", "_law_standing", "_law_sound", "_law_many"] (zl qi):=⟨rfl,rfl,rfl,by decide +kernel,rfl,by decide +kernel,by decide +kernel⟩
abbrev vi:Stmt:=top 44
theorem zc7:z4 ["_law_caller_here"] ["_law_caller_here"] (zl vi):=⟨rfl,rfl,rfl,by decide +kernel,rfl,by decide +kernel,by decide +kernel⟩
abbrev vj:Stmt:=top 45
theorem sc__law_every:z4 ["_law_caller_here", "_law_beginnings", "_law_found", "_law_many", "_law_follow", "_law_standing", "_law_sound"] ["_law_caller_here", "_law_beginnings"] (zl vj):=⟨rfl,rfl,rfl,by decide +kernel,rfl,by decide +kernel,by decide +kernel⟩
abbrev wv:Stmt:=top 46
theorem sc__law_latest:z4 ["_law_caller_here", "_law_standing", "_law_beats", "_law_found", "_law_turn", "_law_beat", "_law_events"] ["_law_caller_here", "_law_standing", "_law_beats"] (zl wv):=⟨rfl,rfl,rfl,by decide +kernel,rfl,by decide +kernel,by decide +kernel⟩
abbrev zn3:Stmt:=top 47
theorem sc_law:z4 ["_law_script", "_law_cell", "_law_pen", "_law_plan", "_law_purse", "_law_gate", "_law_beginnings", "_law_more", "_law_caller_here", "_law_ends", "_law_due"] ["_law_script"] (zl zn3):=⟨rfl,rfl,rfl,by decide +kernel,rfl,by decide +kernel,by decide +kernel⟩
structure Blt(mg:Str->Option Value):Prop where
 len:mg "len" = none
 range:mg "range" = none
 min:mg "min" = none
 max:mg "max" = none
 repr:mg "repr" = none
 isinstance:mg "isinstance" = none
 sorted:mg "sorted" = none
 tupleT:mg "tuple" = none
 intT:mg "int" = none
 listT:mg "list" = none
 strT:mg "str" = none
def xc(K:PySem.W.Frag)(x:Str)(st:Stmt):Prop:=∃f fd,PySem.W.nsIn K mainGlobals x=some (some (.ref f))/\Fun K x x st f fd
theorem fn_at{K:PySem.W.Frag}{x:Str}{st:Stmt}{f:Addr}{od an:Option Addr}{sl:Array (Option Value)}{oc kV dc pm cd ct:Value}(a:PySem.W.nsIn K mainGlobals x=some (some (.ref f)))(l:K.lookup f=some ⟨oc,od,.func (PySem.W.fnOf x x (vc st) (xv st) (zl st) .none kV dc pm an cd ct),sl⟩)(c:PySem.W.codeIn K cd x=true)(k:PySem.W.keepIn K (.ref f)=true):xc K x st:=⟨f,_,a,zr5 l c k⟩
theorem zlb{K:PySem.W.Frag}{x:Str}{st:Stmt}{f:Addr}{fd:FuncData}{s:Shared}{v:Value}{ps:List (Str×Value)}(F:Fun K x x st f fd)(h:∀(kV doc pm:Value) (an:Option Addr) (cdv ct:Value),bindArgs (PySem.W.fnOf x x (vc st) (xv st) (zl st) .none kV doc pm an cdv ct) ⟨[v],[]⟩=pure ps):BindsTo s fd ⟨[v],[]⟩ ps:=by
 obtain⟨oc,od,kV,doc,pm,an,cdv,ct,osl,rfl,lk,hcd⟩:=F.ex;exact .of_eq (h kV doc pm an cdv ct)
abbrev Cal(P:Program)(w:World)(K:PySem.W.Frag)(mg:Str->Option Value)(base:Heap):=je P w K mg base
local macro_rules|`(tactic| walk_at "dr")=>`(tactic| dsimp only[↓zti,↓zih,↓ze0,↓zqd,↓zii,↓zch,↓zm5,↓zm6,↓zps,↓zs7,↓gIf,↓zes,↓zh0,↓zpt,↓zpu,↓zjk,↓zm8,↓zh6,↓zna,↓zjq,↓zbv,↓startV,↓zp0,↓zcb,↓O.bare,↓O.with,↓zmg,↓zmf,↓zpl,↓zmj,↓zmk,↓zsu,↓zsv,↓zmq,↓zmr,↓zms,↓dIf,↓zsx,↓zst,↓zmi,↓zi7,↓zpn,↓zhp,↓zhq,↓zo7,↓zo8,↓zi8,↓zs1,↓dC,↓zfq,↓zlz,↓zl0,↓zl1,↓zo9,↓zsb,↓zpa,↓dFz,↓dTB,↓onB,↓zsc,↓zsd,↓zsf,↓zl2,↓zsg,↓dOp,↓dUn,↓zsh,↓gII,↓zed,↓zsi,↓zsj,↓zsk,↓zsl,↓gEq,↓gNe,↓isNone,↓dCB,↓dCF,↓zsm,↓zsn,↓zso,↓zsp,↓zhk,↓gIx,↓zl5,↓zee,↓dSl,↓zef,↓zbp,↓zeg,↓zi6,↓zeh,↓zei,↓zhm,↓zmb,↓zhn,↓zmc,↓zmo,↓dLC,↓wg,↓zs9,↓lcF,↓zmd,↓zme,↓zho,↓Ret.d,↓v7,↓y2,↓zft,↓clr,↓zsa,↓dIs,↓isD,↓zhv,↓zmv,List.map_cons,List.map_nil,List.length_cons,List.length_nil,List.replicate_succ,List.replicate_zero,List.cons_append,List.nil_append,List.append_nil,List.set_cons_zero,List.set_cons_succ,List.getElem?_cons_zero,List.getElem?_cons_succ,Option.join_some,Nat.reduceAdd,Nat.reduceSub,Nat.zero_add,Bool.not_true,Bool.not_false])
local macro_rules|`(tactic| walk_at "ds")=>`(tactic| first|simp only[↓zti,↓zih,↓ze0,↓zqd,↓zii,↓zch,↓zm5,↓zm6,↓zps,↓zs7,↓gIf,↓zes,↓zh0,↓zpt,↓zpu,↓zjk,↓zm8,↓zh6,↓zna,↓zjq,↓zbv,↓startV,↓zp0,↓zcb,↓O.bare,↓O.with,↓zmg,↓zmf,↓zpl,↓zmj,↓zmk,↓zsu,↓zsv,↓zmq,↓zmr,↓zms,↓dIf,↓zsx,↓zst,↓zmi,↓zi7,↓zpn,↓zhp,↓zhq,↓zo7,↓zo8,↓zi8,↓zs1,↓dC,↓zfq,↓zlz,↓zl0,↓zl1,↓zo9,↓zsb,↓zpa,↓dFz,↓dTB,↓onB,↓zsc,↓zsd,↓zsf,↓zl2,↓zsg,↓dOp,↓dUn,↓zsh,↓gII,↓zed,↓zsi,↓zsj,↓zsk,↓zsl,↓gEq,↓gNe,↓isNone,↓dCB,↓dCF,↓zsm,↓zsn,↓zso,↓zsp,↓zhk,↓gIx,↓zl5,↓zee,↓dSl,↓zef,↓zbp,↓zeg,↓zi6,↓zeh,↓zei,↓zhm,↓zmb,↓zhn,↓zmc,↓zmo,↓dLC,↓wg,↓zs9,↓lcF,↓zmd,↓zme,↓zho,↓Ret.d,↓v7,↓y2,↓zft,↓clr,↓zsa,↓dIs,↓isD,↓zhv,↓zmv,List.map_cons,List.map_nil,List.length_cons,List.length_nil,List.replicate_succ,List.replicate_zero,List.cons_append,List.nil_append,List.append_nil,List.set_cons_zero,List.set_cons_succ,List.getElem?_cons_zero,List.getElem?_cons_succ,Option.join_some,Nat.reduceAdd,Nat.reduceSub,Nat.zero_add,Bool.not_true,Bool.not_false,if_true,if_false,reduceIte,decide_eq_true_eq,Bool.not_eq_true',decide_eq_false_iff_not,true_and,and_true,Bool.false_eq_true,Bool.not_eq_eq_eq_not,eq_self,and_self,List.isEmpty_nil,List.isEmpty_cons,reduceCtorEq,sizeLine_eq,Nat.reduceLeDiff,Nat.zero_le]|skip)
section
variable {P:Program}{w:World}{K:PySem.W.Frag}{mg:Str->Option Value}{base:Heap}{f:Addr}{fd:FuncData}
def vx:DSp:=λws Q=>∃(ns:List Int) (k:Int),ws = [.scr ns,.val (.int k)]/\0<=k/\∀v:Int,Q (.val (.int v))
theorem zbl(B:Blt mg)(F:Fun K "_law_cell_at" "_law_cell_at" wd f fd):FnOk P w K mg base CX0 1 f fd ["_law_script", "_law_k"] (ye K vx):=by
 refine F.dok zbk (λws Q h=>?_) (λcdv A outer s H ws Q E hr h=>?_)
 ·obtain⟨ns,k,rfl,_⟩:=h;rfl
 obtain⟨ns,k,rfl,h0,q⟩:=h;refine⟨_,(zd (yp (yb zc2 (zc 1) (DE.dv (zko 0 rfl B.len)) (z0 _)) (zh (zu (zl6 0 (zg 1) (λ_ _=>rfl)))) ya) (zh (zu zb))),?_⟩;walk_at "ds"
 split
 ·next c=>
  obtain⟨v,e,_⟩:=zly (xs:=ns) h0 c;exact⟨v,e,q v⟩
 ·exact q 0
def vk:DSp:=λws Q=>∃k:Int,ws = [.val (.int k)]/\∀v:Int,Q (.val (.int v))
theorem ze4(B:Blt mg)(F:Fun K "_law_next" "_law_next" qf f fd):FnOk P w K mg base CX0 1 f fd ["_law_seed"] (ye K vk):=by
 refine F.dok sc__law_next (λws Q h=>?_) (λcdv A outer s H ws Q E hr h=>?_)
 ·obtain⟨k,rfl,_⟩:=h;rfl
 obtain⟨k,rfl,q⟩:=h;refine⟨_,(zd (yc (i:=0) sc__law_next.nd rfl (Or.inl rfl) (zp zl4 (DE.dv (zp z6 (zc 0) (DE.dv zb))) (DE.dv zb))) (zh (zu (zp zl4 (DE.dv (zp z6 (DE.dv (zp z6 (DE.dv (zp jz (zc 0) (zc 0))) (DE.dv (zp jz (DE.dv zb) (zc 0))))) (DE.dv zb))) (DE.dv zb))))),?_⟩;walk_at "ds";have h1:0<=(k+7919) % 2147483647:=Int.emod_nonneg _ (by decide);have h2:(k+7919) % 2147483647<2147483647:=Int.emod_lt_of_pos _ (by decide);exact⟨by decide,.inl ⟨by lia,by lia⟩,.inl ⟨by (clear h1 h2;lia),by (clear h1 h2;lia)⟩,by decide,q _⟩
def qj:DSp:=λws Q=>∃k:Int,ws = [.val (.int k)]/\∀a b c:Int,Q (.new [.int a,.int b,.int c])
theorem zck(B:Blt mg)(F:Fun K "_law_pen_of" "_law_pen_of" wt f fd):FnOk P w K mg base CX0 1 f fd ["_law_cell"] (ye K qj):=by
 refine F.dok sc__law_pen_of (λws Q h=>?_) (λcdv A outer s H ws Q E hr h=>?_)
 ·obtain⟨k,rfl,_⟩:=h;rfl
 obtain⟨k,rfl,q⟩:=h;refine⟨_,(zd (yc (i:=1) sc__law_pen_of.nd rfl (Or.inl rfl) (yx (zu0 rfl) rfl B.max boot_max (zt (zc 0) (zt (DE.dv (zp zfr (DE.dv zb) (zc 0))) yi)))) (zh (zpk (x4 (za (zg 1) (za (xt zu1 rfl B.intT boot_int (zt (DE.dv (zl3 zpd (zc 1) (DE.dv (zp zux (DE.dv zb) (DE.dv zb))) (z0 _))) yi)) (za (zp zl4 (zc 1) (DE.dv zb)) zi))))))),?_⟩;walk_at "ds";exact⟨⟨by decide,by decide,by decide⟩,by decide,q _ _ _⟩
def zn4:Sp:=λvs H Q _=>∃k:Int,vs = [.int k]/\∀(v:Int) H',Same H H'->Q (.int v) H'
theorem ztm{k:Nat}{x:Str}{ps:List Str}(C:Cal P w K mg base k x ps (ye K vk)):Cal P w K mg base k x ps zn4:=by
 obtain⟨f,fd,F,r⟩:=C;refine⟨f,fd,F.imp λvs H Q E h=>?_,r⟩;obtain⟨k,rfl,q⟩:=h;exact⟨[.val (.int k)],λr=>∃i:Int,r=.val (.int i),.cons (show Rep K H (.int k) _ from .int) .nil,⟨k,rfl,λv=>⟨v,rfl⟩⟩,λv H' r sm rp ⟨i,e⟩=>by subst e;cases (show Rep K H' (.int i) v from rp);exact q i H' sm⟩
theorem ze5(B:Blt mg)(F:Fun K "_law_draw" "_law_draw" qg f fd)(Cd:Cal P w K mg base 1 "_law_next" ["_law_seed"] (ye K vk)):FnOk P w K mg base CX0 2 f fd ["_law_pen", "_law_many"] (ye K xo):=by
 have C__law_next:=ztm Cd;refine zsy (F.ok sc__law_draw (λvs H Q E h=>?_) (λcdv A outer s H vs Q E hr h=>?_))
 ·obtain⟨p,m,rfl,_⟩:=h;rfl
 obtain⟨p,m,rfl,hm,hM,⟨a,b,c,hp⟩,q⟩:=h;refine⟨_,(jw (zt3 (zuu (zrg (ziz zqp (v4 ix_list (pv 0) xr (λ_ _=>rfl)) xr (z0 _)) (zow (ziz zqq (v4 ix_list (pv 0) xr (λ_ _=>rfl)) xr (z0 _))))) (jw (zam (i:=2) sc__law_draw.nd rfl (Or.inl rfl) (zff zg8 (v4 ix_list (pv 0) xr (λ_ _=>rfl)) (pv 1))) (jw (zd7 (zff zfn (v4 ix_list (pv 0) xr (λ_ _=>rfl)) (pv 1)) (zg4 (pv 0) xr zb2)) (ziv (zal (pv 2))))) zox) (jw (zd7 (jx C__law_next hr rfl (yw (zff zlo (jx C__law_next hr rfl (yw (v4 ix_list (pv 0) xr (λ_ _=>rfl)) x3)) xr) x3)) (zg4 (pv 0) xr zb2)) (ziv (zal (zff zg8 (zff zfn (v4 ix_list (pv 0) xr (λ_ _=>rfl)) xr) (pv 1)))))),?_⟩;have hS:SqL K H p [.int a,.int b,.int c]:=SqL.of hp;refine⟨_,rfl,p,_,_,_,rfl,rfl,hS,rfl,rfl,_,rfl,?_⟩;refine zuo (λc1=>?_) (λc1=>?_)
 ·refine⟨_,rfl,p,_,_,_,rfl,rfl,hS,rfl,_,_,rfl,rfl,_,rfl,?_⟩;refine zuo (λc2=>?_) (λc2=>?_)
  ·refine⟨_,rfl,p,_,_,_,rfl,rfl,hS,rfl,_,rfl,_,_,rfl,rfl,hm,?_⟩;refine⟨_,rfl,p,_,_,_,rfl,rfl,hS,rfl,_,rfl,_,_,rfl,rfl,⟨hm,hM⟩,?_⟩;refine⟨_,rfl,p,_,_,_,rfl,rfl,hp,rfl,?_⟩;exact⟨_,rfl,q _ _ (Int.emod_nonneg _ (by lia)) (Int.emod_lt_of_pos _ hm) ⟨a / m,b,c,zq⟩ But.write⟩
  ·refine⟨_,rfl,p,_,_,_,rfl,rfl,hS,rfl,_,rfl,λv1 H1 s1=>⟨_,_,rfl,rfl,_,rfl,λv2 H2 s2=>⟨_,rfl,p,_,_,_,rfl,rfl,s2 _ _ (s1 _ _ hp),rfl,?_⟩⟩⟩;refine⟨_,rfl,p,_,_,_,rfl,rfl,SqL.of zq,rfl,_,_,rfl,rfl,⟨by decide,by decide⟩,_,rfl,_,_,rfl,rfl,hm,?_⟩;exact q _ _ (Int.emod_nonneg _ (by lia)) (Int.emod_lt_of_pos _ hm) ⟨a,b,v2,zq⟩ ((But.of_same (s1.trans s2)).trans But.write)
 ·refine zv6 ?_;refine⟨_,rfl,p,_,_,_,rfl,rfl,hS,rfl,_,rfl,λv1 H1 s1=>⟨_,_,rfl,rfl,_,rfl,λv2 H2 s2=>⟨_,rfl,p,_,_,_,rfl,rfl,s2 _ _ (s1 _ _ hp),rfl,?_⟩⟩⟩;refine⟨_,rfl,p,_,_,_,rfl,rfl,SqL.of zq,rfl,_,_,rfl,rfl,⟨by decide,by decide⟩,_,rfl,_,_,rfl,rfl,hm,?_⟩;exact q _ _ (Int.emod_nonneg _ (by lia)) (Int.emod_lt_of_pos _ hm) ⟨a,b,v2,zq⟩ ((But.of_same (s1.trans s2)).trans But.write)
def ze6:DSp:=λws Q=>∃ns:List Int,ws = [.scr ns]/\ns.length<=63/\Q (.val (.bool true))
structure Gp where
 f:Int
 t:Int
 m:Int
 k:Int
def Gp.D(g:Gp):D:=.tuple [.int g.f,.int g.t,.int g.m,.int g.k]
structure Gp.Ok(g:Gp):Prop where
 f1:1<=g.f
 f2:g.f<=1000
 t1:1<=g.t
 t2:g.t<=10
 m1:0<=g.m
 m2:g.m<=1000
 k1:1<=g.k
 k2:g.k<=1000
def gp(g:Gp):Nat->Int
 |0=>min g.f g.k
 |n+1=>min (g.t * gp g n+g.m) g.k
def gpL(g:Gp)(n:Nat):List Int:=(List.range n).map (gp g)
theorem zcl(g:Gp)(n:Nat):gpL g (n+1)=gpL g n ++ [gp g n]:=by simp[gpL,List.range_succ]
theorem zqe(g:Gp)(n:Nat):(gpL g n).length=n:=by simp[gpL]
theorem zj1(g:Gp){j:Nat}(h:gp g (j+1)=gp g j):∀i,gp g (j+i)=gp g j
 |0=>rfl
 |i+1=>by
  have e:gp g (j+(i+1))=min (g.t * gp g (j+i)+g.m) g.k:=rfl;rw[e,zj1 g h i];exact h
theorem zgo{g:Gp}(o:g.Ok):∀n,1<=gp g n/\gp g n<=1000
 |0=>by
  have:=o.f1;have:=o.f2;have:=o.k1;have:=o.k2;simp only[gp];omega
 |n+1=>by
  have ih:=zgo o n;have:=o.t1;have:=o.t2;have:=o.m1;have:=o.k1;have:=o.k2;have h1:1 * 1<=g.t * gp g n:=Int.mul_le_mul o.t1 ih.1 (by decide) (by lia);simp only[gp];omega
theorem atI_end{α:Type}(xs:List α)(x:α):atI (xs ++ [x]) (-1)=some x:=zfk xs x
theorem we{a b:Int}(h1:0<=a)(h2:a<=1000000000)(h3:0<=b)(h4:b<=1000000000):CMul a b:=.inl ⟨by lia,by lia⟩
def zcm:DSp:=λws Q=>∃(g:Gp) (n:Int),ws = [.val g.D,.val (.int n)]/\g.Ok/\n<=10000/\∀j:Nat,1<=j->(j:Int)<=max n 1->(∀i:Nat,j-1<=i->(i:Int)<n->gp g i=gp g (j-1))->Q (.new ((gpL g j).map PyData.int))
theorem zil(B:Blt mg)(F:Fun K "growing" "growing" zaz f fd):FnOk P w K mg base CX0 1 f fd ["gaps", "many"] (ye K zcm):=by
 refine F.dok sc_growing (λws Q h=>?_) (λcdv A outer s H ws Q E hr h=>?_)
 ·obtain⟨g,n,rfl,_⟩:=h;rfl
 obtain⟨g,n,rfl,o,hn,q⟩:=h;simp only[Gp.D];refine⟨_,(zd (yu (zg 0) (yq (n:=4) rfl (ze (zf (i:=2) sc_growing.nd rfl (Or.inl rfl)) (ze (zf (i:=3) sc_growing.nd rfl (Or.inl rfl)) (ze (zf (i:=4) sc_growing.nd rfl (Or.inl rfl)) (ze (zf (i:=5) sc_growing.nd rfl (Or.inl rfl)) yf)))))) (zd (zbq (i:=6) sc_growing.nd rfl (Or.inl rfl) (x4 (za (yx (j4 rfl) rfl B.min boot_min (zt (zc 2) (zt (zc 5) yi))) zi))) (zd (zmm PassesOwn.never (yb zc2 (DE.dv (yx zqw rfl B.len PySem.boot_len (zt (zc 6) yi))) (zc 1) (z0 _)) (zd (yc (i:=7) sc_growing.nd rfl (Or.inl rfl) (yx (j4 rfl) rfl B.min boot_min (zt (DE.dv (zp z6 (DE.dv (zp jz (zc 3) (DE.dv (zm (zc 6) (jf zb) (λ_ _=>rfl))))) (zc 4))) (zt (zc 5) yi)))) (zd (yp (yb (k5 hr) (zc 7) (DE.dv (zm (zc 6) (jf zb) (λ_ _=>rfl))) (z0 _)) (zh zmh) ya) (zh (ww 6 (zg 7)))))) (zh (zek 6))))),?_⟩;walk_at "ds";refine zkr (λm σ=>∃(j:Nat) (u:Option W),σ = [some (.val g.D),some (.val (.int n)),some (.val (.int g.f)),some (.val (.int g.t)),some (.val (.int g.m)),some (.val (.int g.k)),some (.own (.lst ((gpL g (j+1)).map PyData.int))),u]/\((j+1:Nat):Int)<=max n 1/\m=n.toNat-j) _ ⟨0,none,rfl,by lia,rfl⟩ ?_;rintro m σ N ⟨j,u,rfl,hj,rfl⟩ k;walk_at "ds";rw[List.length_map,zqe];have el:atI ((gpL g (j+1)).map PyData.int) (-1)=some (.int (gp g j)):=by rw[zcl,List.map_append];exact atI_end _ _
 have bd:=zgo o j;have:=o.t1;have:=o.t2
 by_cases c:((j+1:Nat):Int)<n
 ·rw[if_pos c];refine⟨_,el,we (by (clear hn hj c;omega)) (by (clear hn hj bd c;lia)) (by lia) (by lia),_,el,?_⟩;have e1:min (g.t * gp g j+g.m) g.k=gp g (j+1):=rfl;rw[e1];walk_at "ds"
  by_cases c2:gp g (j+1)=gp g j
  ·rw[if_pos c2];refine q (j+1) (by (clear hn hj bd c e1 c2;lia)) hj λi h1 h2=>?_;have:=zj1 g c2 (i-j);rw[show j+(i-j)=i by (clear hn hj bd c e1 c2 h2 this;lia)]at this;exact this
  ·rw[if_neg c2];refine⟨by (clear hj bd e1;lia),k (n.toNat-(j+1)) _ (by (clear hj bd e1;lia)) ⟨j+1,_,(by rw[zcl g (j+1),List.map_append];rfl),by (clear e1;omega),rfl⟩⟩
 ·rw[if_neg c];exact q (j+1) (by lia) hj λi h1 h2=>by rw[show i=j+1-1 by (clear hj bd;lia)]
end
section
variable {P:Program}{w:World}{K:PySem.W.Frag}{mg:Str->Option Value}{base:Heap}{f:Addr}{fd:FuncData}
structure Pl where
 g:Gp
 n:Int
 t:Int
def Pl.D(p:Pl):D:=.tuple [p.g.D,.int p.n,.int p.t]
structure Pl.Ok(p:Pl):Prop where
 g:p.g.Ok
 n1:1<=p.n
 n2:p.n<=200
 t1:0<=p.t
 t2:p.t<=400000
def knL(lim:Int):List Int->Int->List Int
 |[],_=>[]
 |x::xs,b=>if lim<b+x then [] else (b+x)::knL lim xs (b+x)
def kn(p:Pl)(b:Int):List Int:=b::knL (b+p.t) (gpL p.g (p.n.toNat-1)) b
def zd2:DSp:=λws Q=>∃(g:Gp) (n:Int),ws = [.val g.D,.val (.int n)]/\g.Ok/\1<=n/\n<=10000/\Q (.val (.int (gp g (n.toNat-1))))
theorem zlc(B:Blt mg)(F:Fun K "gap_at" "gap_at" zci f fd)(C_growing:Cal P w K mg base 1 "growing" ["gaps", "many"] (ye K zcm)):FnOk P w K mg base CX0 2 f fd ["gaps", "k"] (ye K zd2):=by
 refine F.dok zla (λws Q h=>?_) (λcdv A outer s H ws Q E hr h=>?_)
 ·obtain⟨g,n,rfl,_⟩:=h;rfl
 obtain⟨g,n,rfl,o,h0,hn,q⟩:=h;refine⟨_,(zh (zu (zm (DE.dv (zn C_growing hr rfl (zj 0 (zj 1 zr)))) (jf zb) (λ_ _=>rfl)))),?_⟩;walk_at "ds";refine⟨g,n,rfl,o,hn,λj h1 h2 h3=>?_⟩;walk_at "ds";have el:atI ((gpL g j).map PyData.int) (-1)=some (.int (gp g (j-1))):=by
  obtain⟨i,rfl⟩:∃i,j=i+1:=⟨j-1,by (clear h0 hn h2;omega)⟩
  rw[zcl,List.map_append];exact atI_end _ _
 refine⟨_,el,?_⟩;rw[<-h3 (n.toNat-1) (by omega) (by (clear h1 h2;lia))];exact q
structure Gt where
 f:Int
 r:Int
 t:Int
 m:Int
 n:Int
def Gt.D(g:Gt):D:=.tuple [.int g.f,.int g.r,.int g.t,.int g.m,.int g.n]
structure Gt.Ok(g:Gt):Prop where
 f1:1<=g.f
 f2:g.f<=20
 r1:1<=g.r
 t1:1<=g.t
 t2:g.t<=10
 m1:g.r<=g.m
 m2:g.m<=1000
 n1:1<=g.n
 n2:g.n<=10
inductive Sg where
 |op (k:Int)|sh (u w:Int)|tr (k w:Int)
def Sg.D:Sg->D
 |.op k=>.tuple [.str "open",.int k]
 |.sh u w=>.tuple [.str "shut",.int u,.int w]
 |.tr k w=>.tuple [.str "trying",.int k,.int w]
def Sg.Ok(g:Gt):Sg->Prop
 |.op k=>0<=k/\k<g.f
 |.sh u w=>0<=u/\u<=2000000/\1<=w/\w<=g.m
 |.tr k w=>0<=k/\k<g.n/\1<=w/\w<=g.m
def xg:Sg->Int->Bool×Sg
 |.sh u w,b=>if b<u then (false,.sh u w) else (true,.tr 0 w)
 |s,_=>(true,s)
def heL(g:Gt):Sg->Int->Bool->Sg
 |.op k,b,a=>if a=true then .op 0 else if k+1=g.f then .sh (b+g.r) g.r else .op (k+1)
 |.tr k w,b,a=>if a=true then (if k+1=g.n then .op 0 else .tr (k+1) w) else .sh (b+min (g.t * w) g.m) (min (g.t * w) g.m)
 |.sh u w,_,_=>.sh u w
def Sg.shut:Sg->Bool
 |.sh _ _=>true
 |_=>false
theorem zgp:¬ ((Str.ofString "open")=(Str.ofString "shut")):=by decide +kernel
theorem zgq:¬ ((Str.ofString "trying")=(Str.ofString "shut")):=by decide +kernel
theorem zq6:¬ ((Str.ofString "trying")=(Str.ofString "open")):=by decide +kernel
def ltD(x:Bool×Sg):D:=.tuple [.bool x.1,x.2.D]
theorem ze7{g:Gt}(o:g.Ok):∀{s:Sg}{b:Int},s.Ok g->(xg s b).2.Ok g/\((xg s b).1=true->(xg s b).2.shut=false)
 |.op k,b,h=>⟨h,λ_=>rfl⟩
 |.tr k w,b,h=>⟨h,λ_=>rfl⟩
 |.sh u w,b,h=>by
  have:=o.n1;simp only[xg]
  split
  ·exact⟨h,λz=>by cases z⟩
  ·exact⟨⟨Int.le_refl _,by lia,h.2.2.1,h.2.2.2⟩,λ_=>rfl⟩
theorem zvf{g:Gt}(o:g.Ok){b:Int}(hb:0<=b/\b<=1900000){a:Bool}:∀{s:Sg},s.Ok g->(heL g s b a).Ok g
 |.op k,h=>by
  have:=o.f1;have:=o.r1;have:=o.m1;have:=o.m2;simp only[Sg.Ok]at h;simp only[heL]
  split
  ·exact⟨Int.le_refl _,by lia⟩
  ·split
   ·exact⟨by lia,by lia,by omega,by omega⟩
   ·exact⟨by lia,by lia⟩
 |.tr k w,h=>by
  have:=o.f1;have:=o.m2;have:=o.r1;have:=o.m1;simp only[Sg.Ok]at h;have h1:1 * 1<=g.t * w:=Int.mul_le_mul o.t1 h.2.2.1 (by decide) (by have:=o.t1;lia);simp only[heL]
  split
  ·split
   ·exact⟨Int.le_refl _,by (clear h h1;lia)⟩
   ·exact⟨by lia,by lia,h.2.2.1,h.2.2.2⟩
  ·exact⟨by omega,by lia,by omega,by (clear hb h;omega)⟩
 |.sh u w,h=>h
def zj2:DSp:=λws Q=>∃(d:D) (s:Sg) (b:Int),ws = [.val d,.val s.D,.val (.int b)]/\Q (.val (ltD (xg s b)))
theorem zqf(B:Blt mg)(F:Fun K "lets" "lets" zij f fd){t_SHUT:Tok}(G_SHUT:mg "SHUT" = some (.str "shut" t_SHUT)){t_TRYING:Tok}(G_TRYING:mg "TRYING" = some (.str "trying" t_TRYING)):FnOk P w K mg base CX0 1 f fd ["gate", "standing", "beat"] (ye K zj2):=by
 refine F.dok sc_lets (λws Q h=>?_) (λcdv A outer s H ws Q E hr h=>?_)
 ·obtain⟨d,s,b,rfl,_⟩:=h;rfl
 obtain⟨d,s,b,rfl,q⟩:=h
 cases s with
 |op k=>
  simp only[Sg.D];refine⟨_,(zd (yp (yb (zhj hr) (DE.dv (zm (zc 1) zb (λ_ _=>rfl))) (DE.dv (yh (d:=.str "shut") (v:=.str "shut") rfl G_SHUT ⟨_,rfl⟩ (λ_=>.str))) (z0 _)) (zh (zu (zo (za xx (za (zg 1) zi) yg)))) ya) (zd (yu (zg 1) (yq (n:=3) rfl (ze (zf (i:=3) sc_lets.nd rfl (Or.inl rfl)) (ze (zf (i:=4) sc_lets.nd rfl (Or.inl rfl)) (ze (zf (i:=5) sc_lets.nd rfl (Or.inl rfl)) yf))))) (zd (yp (yb zc2 (zc 2) (zc 4) (z0 _)) (zh (zu (zo (za xx (za (zg 1) zi) yg)))) ya) (zh (zu (zo (za xx (za (zo (za (yh (d:=.str "trying") (v:=.str "trying") rfl G_TRYING ⟨_,rfl⟩ (λ_=>.str)) (za zb (za (zg 5) zi) yg))) zi zao) yg))))))),?_⟩;walk_at "ds";refine⟨_,zw _ _,?_⟩;walk_at "ds";rw[if_pos zgp];exact q
 |tr k w=>
  simp only[Sg.D];refine⟨_,(zd (yp (yb (zhj hr) (DE.dv (zm (zc 1) zb (λ_ _=>rfl))) (DE.dv (yh (d:=.str "shut") (v:=.str "shut") rfl G_SHUT ⟨_,rfl⟩ (λ_=>.str))) (z0 _)) (zh (zu (zo (za xx (za (zg 1) zi) yg)))) ya) (zd (yu (zg 1) (yq (n:=3) rfl (ze (zf (i:=3) sc_lets.nd rfl (Or.inl rfl)) (ze (zf (i:=4) sc_lets.nd rfl (Or.inl rfl)) (ze (zf (i:=5) sc_lets.nd rfl (Or.inl rfl)) yf))))) (zd (yp (yb zc2 (zc 2) (zc 4) (z0 _)) (zh (zu (zo (za xx (za (zg 1) zi) yg)))) ya) (zh (zu (zo (za xx (za (zo (za (yh (d:=.str "trying") (v:=.str "trying") rfl G_TRYING ⟨_,rfl⟩ (λ_=>.str)) (za zb (za (zg 5) zi) yg))) zi zao) yg))))))),?_⟩;walk_at "ds";refine⟨_,zw _ _,?_⟩;walk_at "ds";rw[if_pos zgq];exact q
 |sh u w=>
  simp only[Sg.D];refine⟨_,(zd (yp (yb (zhj hr) (DE.dv (zm (zc 1) zb (λ_ _=>rfl))) (DE.dv (yh (d:=.str "shut") (v:=.str "shut") rfl G_SHUT ⟨_,rfl⟩ (λ_=>.str))) (z0 _)) (zh (zu (zo (za xx (za (zg 1) zi) yg)))) ya) (zd (yu (zg 1) (yq (n:=3) rfl (ze (zf (i:=3) sc_lets.nd rfl (Or.inl rfl)) (ze (zf (i:=4) sc_lets.nd rfl (Or.inl rfl)) (ze (zf (i:=5) sc_lets.nd rfl (Or.inl rfl)) yf))))) (zd (yp (yb zc2 (zc 2) (zc 4) (z0 _)) (zh (zu (zo (za xx (za (zg 1) zi) yg)))) ya) (zh (zu (zo (za xx (za (zo (za (yh (d:=.str "trying") (v:=.str "trying") rfl G_TRYING ⟨_,rfl⟩ (λ_=>.str)) (za zb (za (zg 5) zi) yg))) zi zao) yg))))))),?_⟩;walk_at "ds";refine⟨_,zw _ _,?_⟩;walk_at "ds";rw[if_neg (λz=>z trivial)];simp only[xg]at q
  split
  ·next c=>rw[if_pos c]at q;exact q
  ·next c=>rw[if_neg c]at q;exact q
def k8:DSp:=λws Q=>∃(g:Gt) (k b:Int) (a:Bool),ws = [.val g.D,.val (.int k),.val (.int b),.val (.bool a)]/\Q (.val (heL g (.op k) b a).D)
theorem zc8(B:Blt mg)(F:Fun K "heard_open" "heard_open" vh f fd){ga_FIRST_STANDING:Addr}(G_FIRST_STANDING:mg "FIRST_STANDING" = some (.ref ga_FIRST_STANDING))(N_FIRST_STANDING:∀H,Rep K H (.tuple [(.str "open"),(.int 0)]) (.ref ga_FIRST_STANDING)){t_OPEN:Tok}(G_OPEN:mg "OPEN" = some (.str "open" t_OPEN)){t_SHUT:Tok}(G_SHUT:mg "SHUT" = some (.str "shut" t_SHUT)):FnOk P w K mg base CX0 1 f fd ["gate", "bad", "beat", "answered"] (ye K k8):=by
 refine F.dok sc_heard_open (λws Q h=>?_) (λcdv A outer s H ws Q E hr h=>?_)
 ·obtain⟨g,k,b,a,rfl,_⟩:=h;rfl
 obtain⟨g,k,b,a,rfl,q⟩:=h;simp only[Gt.D];refine⟨_,(zd (yu (zg 0) (yq (n:=5) rfl (ze (zf (i:=4) sc_heard_open.nd rfl (Or.inl rfl)) (ze (zf (i:=5) sc_heard_open.nd rfl (Or.inl rfl)) (ze (zf (i:=6) sc_heard_open.nd rfl (Or.inl rfl)) (ze (zf (i:=7) sc_heard_open.nd rfl (Or.inl rfl)) (ze (zf (i:=8) sc_heard_open.nd rfl (Or.inl rfl)) yf))))))) (zd (yp (x5 (zc 3)) (zh (zu (yh (v:=.ref _) rfl G_FIRST_STANDING rfl N_FIRST_STANDING))) ya) (zd (yp (yb (k5 hr) (DE.dv (zp z6 (zc 1) (DE.dv zb))) (zc 4) (z0 _)) (zh (zu (zo (za (yh (d:=.str "shut") (v:=.str "shut") rfl G_SHUT ⟨_,rfl⟩ (λ_=>.str)) (za (zp z6 (zc 2) (zc 5)) (za (zg 5) zi)))))) ya) (zh (zu (zo (za (yh (d:=.str "open") (v:=.str "open") rfl G_OPEN ⟨_,rfl⟩ (λ_=>.str)) (za (zp z6 (zc 1) (DE.dv zb)) zi)))))))),?_⟩;walk_at "ds";simp only[heL]at q
 cases a with
 |true=>exact q
 |false=>
  walk_at "ds";rw[if_neg (by decide)]at q
  split
  ·next c=>rw[if_pos c]at q;exact q
  ·next c=>rw[if_neg c]at q;exact q
def vy:DSp:=λws Q=>∃(g:Gt) (k w b:Int) (a:Bool),ws = [.val g.D,.val (Sg.tr k w).D,.val (.int b),.val (.bool a)]/\g.Ok/\0<=w/\w<=1000/\Q (.val (heL g (.tr k w) b a).D)
theorem zbm(B:Blt mg)(F:Fun K "heard_trying" "heard_trying" wc f fd){ga_FIRST_STANDING:Addr}(G_FIRST_STANDING:mg "FIRST_STANDING" = some (.ref ga_FIRST_STANDING))(N_FIRST_STANDING:∀H,Rep K H (.tuple [(.str "open"),(.int 0)]) (.ref ga_FIRST_STANDING)){t_TRYING:Tok}(G_TRYING:mg "TRYING" = some (.str "trying" t_TRYING)){t_SHUT:Tok}(G_SHUT:mg "SHUT" = some (.str "shut" t_SHUT)):FnOk P w K mg base CX0 1 f fd ["gate", "standing", "beat", "answered"] (ye K vy):=by
 refine F.dok sc_heard_trying (λws Q h=>?_) (λcdv A outer s H ws Q E hr h=>?_)
 ·obtain⟨g,k,w,b,a,rfl,_⟩:=h;rfl
 obtain⟨g,k,w,b,a,rfl,o,h1,h2,q⟩:=h;have:=o.t1;have:=o.t2;simp only[Gt.D,Sg.D];refine⟨_,(zd (yu (zg 0) (yq (n:=5) rfl (ze (zf (i:=4) sc_heard_trying.nd rfl (Or.inl rfl)) (ze (zf (i:=5) sc_heard_trying.nd rfl (Or.inl rfl)) (ze (zf (i:=6) sc_heard_trying.nd rfl (Or.inl rfl)) (ze (zf (i:=7) sc_heard_trying.nd rfl (Or.inl rfl)) (ze (zf (i:=8) sc_heard_trying.nd rfl (Or.inl rfl)) yf))))))) (zd (yu (zg 1) (yq (n:=3) rfl (ze (zf (i:=9) sc_heard_trying.nd rfl (Or.inl rfl)) (ze (zf (i:=10) sc_heard_trying.nd rfl (Or.inl rfl)) (ze (zf (i:=11) sc_heard_trying.nd rfl (Or.inl rfl)) yf))))) (zd (yp (zec (x5 (zc 3))) (zd (yc (i:=12) sc_heard_trying.nd rfl (Or.inl rfl) (yx (j4 rfl) rfl B.min boot_min (zt (DE.dv (zp jz (zc 6) (zc 11))) (zt (zc 7) yi)))) (zh (zu (zo (za (yh (d:=.str "shut") (v:=.str "shut") rfl G_SHUT ⟨_,rfl⟩ (λ_=>.str)) (za (zp z6 (zc 2) (zc 12)) (za (zg 12) zi))))))) ya) (zd (yp (yb (k5 hr) (DE.dv (zp z6 (zc 10) (DE.dv zb))) (zc 8) (z0 _)) (zh (zu (yh (v:=.ref _) rfl G_FIRST_STANDING rfl N_FIRST_STANDING))) ya) (zh (zu (zo (za (yh (d:=.str "trying") (v:=.str "trying") rfl G_TRYING ⟨_,rfl⟩ (λ_=>.str)) (za (zp z6 (zc 10) (DE.dv zb)) (za (zg 11) zi)))))))))),?_⟩;walk_at "ds";simp only[heL]at q
 cases a with
 |true=>
  walk_at "ds";rw[if_pos rfl]at q
  split
  ·next c=>rw[if_pos c]at q;exact q
  ·next c=>rw[if_neg c]at q;exact q
 |false=>
  walk_at "ds";rw[if_neg (by decide)]at q;exact⟨we (by lia) (by lia) (by omega) (by lia),q⟩
def zgr:DSp:=λws Q=>∃(g:Gt) (s:Sg) (b:Int) (a:Bool),ws = [.val g.D,.val s.D,.val (.int b),.val (.bool a)]/\g.Ok/\s.Ok g/\s.shut=false/\Q (.val (heL g s b a).D)
theorem zn5(B:Blt mg)(F:Fun K "heard" "heard" ze1 f fd){t_SHUT:Tok}(G_SHUT:mg "SHUT" = some (.str "shut" t_SHUT)){t_OPEN:Tok}(G_OPEN:mg "OPEN" = some (.str "open" t_OPEN))(C_heard_open:Cal P w K mg base 1 "heard_open" ["gate", "bad", "beat", "answered"] (ye K k8))(C_heard_trying:Cal P w K mg base 1 "heard_trying" ["gate", "standing", "beat", "answered"] (ye K vy)):FnOk P w K mg base CX0 2 f fd ["gate", "standing", "beat", "answered"] (ye K zgr):=by
 refine F.dok zn2 (λws Q h=>?_) (λcdv A outer s H ws Q E hr h=>?_)
 ·obtain⟨g,s,b,a,rfl,_⟩:=h;rfl
 obtain⟨g,s,b,a,rfl,o,os,hs,q⟩:=h;have:=o.m2
 cases s with
 |sh u w=>cases hs
 |op k=>
  refine⟨_,(zd (yp (yb (k5 hr) (DE.dv (zm (zc 1) zb (λ_ _=>rfl))) (DE.dv (yh (d:=.str "shut") (v:=.str "shut") rfl G_SHUT ⟨_,rfl⟩ (λ_=>.str))) (z0 _)) (zh zfw) ya) (zd (yp (yb (k5 hr) (DE.dv (zm (zc 1) zb (λ_ _=>rfl))) (DE.dv (yh (d:=.str "open") (v:=.str "open") rfl G_OPEN ⟨_,rfl⟩ (λ_=>.str))) (z0 _)) (zh (zu (zn C_heard_open hr rfl (zj 0 (z7 (zm (zc 1) zb (λ_ _=>rfl)) (zj 2 (zj 3 zr))))))) ya) (zh (zu (zn C_heard_trying hr rfl (zj 0 (zj 1 (zj 2 (zj 3 zr))))))))),?_⟩;simp only[Sg.D];walk_at "ds";refine⟨_,zw _ _,?_⟩;walk_at "ds";rw[if_neg zgp];refine⟨_,zw _ _,?_⟩;walk_at "ds";exact⟨_,ym _ _ _,g,k,b,a,rfl,q⟩
 |tr k w=>
  simp only[Sg.Ok]at os;refine⟨_,(zd (yp (yb (k5 hr) (DE.dv (zm (zc 1) zb (λ_ _=>rfl))) (DE.dv (yh (d:=.str "shut") (v:=.str "shut") rfl G_SHUT ⟨_,rfl⟩ (λ_=>.str))) (z0 _)) (zh zfw) ya) (zd (yp (yb (k5 hr) (DE.dv (zm (zc 1) zb (λ_ _=>rfl))) (DE.dv (yh (d:=.str "open") (v:=.str "open") rfl G_OPEN ⟨_,rfl⟩ (λ_=>.str))) (z0 _)) (zh (zu (zn C_heard_open hr rfl (zj 0 (z7 (zm (zc 1) zb (λ_ _=>rfl)) (zj 2 (zj 3 zr))))))) ya) (zh (zu (zn C_heard_trying hr rfl (zj 0 (zj 1 (zj 2 (zj 3 zr))))))))),?_⟩;simp only[Sg.D];walk_at "ds";refine⟨_,zw _ _,?_⟩;walk_at "ds";rw[if_neg zgq];refine⟨_,zw _ _,?_⟩;walk_at "ds";rw[if_neg zq6];exact⟨g,k,w,b,a,rfl,o,by lia,by omega,q⟩
end
section
variable {P:Program}{w:World}{K:PySem.W.Frag}{mg:Str->Option Value}{base:Heap}{f:Addr}{fd:FuncData}
def xu{α:Type}(l:α->List Int)(of:List Int->α)(xs:List α):List α:=(zf4 (xs.map l)).map of
section
variable {α:Type}{l:α->List Int}{of:List Int->α}
theorem qk(h:∀a,of (l a)=a)(xs:List α):(xu l of xs).Perm xs:=by
 have:=(ji (xs.map l)).map of;rw[List.map_map]at this
 rwa [show xs.map (of ∘ l)=xs from(List.map_congr_left λa _=>h a).trans (List.map_id _)]at this
theorem zn6(h:∀a,of (l a)=a)(xs:List α):(xu l of xs).map l=zf4 (xs.map l):=by
 unfold xu;rw[List.map_map];refine(List.map_congr_left λt ht=>?_).trans (List.map_id _);obtain⟨a,_,rfl⟩:=List.mem_map.mp ((ji _).mem_iff.mp ht);simp[h]
theorem zld(h:∀a,of (l a)=a)(xs:List α):((xu l of xs).map l).Pairwise λa b=>¬ b<a:=by
 rw[zn6 h];exact zf5 _
end
structure Ps where
 a:Int
 p:Int
 c:Int
 f:Int
def Ps.D(u:Ps):D:=.tuple [.int u.a,.int u.p,.int u.c,.int u.f]
structure Ps.Ok(u:Ps):Prop where
 a1:0<=u.a
 a2:u.a<=1000
 p1:1<=u.p
 p2:u.p<=1000
 c1:0<=u.c
 c2:u.c<=10000
 f1:0<=u.f
 f2:u.f<=u.c
structure Cl where
 p:Pl
 u:Ps
 g:Gt
def Cl.D(c:Cl):D:=.tuple [c.p.D,c.u.D,c.g.D]
structure Cl.Ok(c:Cl):Prop where
 p:c.p.Ok
 t:c.p.t<=1000
 u:c.u.Ok
 g:c.g.Ok
structure En where
 d:Int
 n:Int
 b:Int
 t:Int
def En.l(e:En):List Int:=[e.d,e.n,e.b,e.t]
def En.of:List Int->En
 |[d,n,b,t]=>⟨d,n,b,t⟩
 |_=>⟨0,0,0,0⟩
def En.D(e:En):D:=tD e.l
theorem En.of_l(e:En):En.of e.l=e:=rfl
structure Tr where
 n:Int
 b:Int
 t:Int
def Tr.l(e:Tr):List Int:=[e.n,e.b,e.t]
def Tr.of:List Int->Tr
 |[n,b,t]=>⟨n,b,t⟩
 |_=>⟨0,0,0⟩
def Tr.D(e:Tr):D:=tD e.l
theorem Tr.of_l(e:Tr):Tr.of e.l=e:=rfl
structure Sn where
 b:Int
 w:List En
 c:Int
 g:Sg
 k:Int
def Sn.D(s:Sn):D:=.tuple [.int s.b,.tuple (s.w.map En.D),.int s.c,s.g.D,.int s.k]
inductive Wt where
 |non|due (d:Int)|kno|tim|pur
def Wt.D:Wt->D
 |.non=>.none
 |.due d=>.int d
 |.kno=>.str "knocks"
 |.tim=>.str "time"
 |.pur=>.str "purse"
def wdE:Option Bool->D
 |none=>.str "held"
 |some true=>.str "served"
 |some false=>.str "silent"
structure Ev where
 n:Int
 w:Option Bool
 t:Wt
def Ev.D(e:Ev):D:=.tuple [.int e.n,wdE e.w,e.t.D]
def whL(c:Cl)(coins beat begin tries:Int):Wt :=
 if tries=c.p.n then .kno else if begin+c.p.t<beat+gp c.p.g (tries.toNat-1) then .tim else if coins<c.u.p then .pur else .due (beat+gp c.p.g (tries.toNat-1))
def xf(g:Gt)(s:Sg)(b:Int)(snd:Bool):Option Bool×Sg:=if (xg s b).1=true then (some snd,heL g (xg s b).2 b snd) else (none,(xg s b).2)
def za4(c:Cl)(st:Sn)(g:Sg)(n b t:Int):Wt->Sn
 |.due d=>{ st with g:=g,c:=st.c-c.u.p,w:=st.w ++ [⟨d,n,b,t+1⟩] }
 |_=>{ st with g:=g }
def y3(c:Cl)(st:Sn)(snd:Bool)(n b t:Int):Sn×Ev :=
 if (xf c.g st.g st.b snd).1=some true then ({ st with g:=(xf c.g st.g st.b snd).2 },⟨n,some true,.non⟩)
 else (za4 c st (xf c.g st.g st.b snd).2 n b t (whL c st.c st.b b (t+1)),⟨n,(xf c.g st.g st.b snd).1,whL c st.c st.b b (t+1)⟩)
def yz(c:Cl)(st:Sn):Sn:={ st with c:=min (st.c+1 * c.u.a) c.u.c,k:=st.k+1 }
def yk(c:Cl)(snd:Bool):List Tr->Sn->List Ev->Sn×List Ev
 |[],st,es=>(st,es)
 |r::rs,st,es=>yk c snd rs (y3 c st snd r.n r.b r.t).1 (es ++ [(y3 c st snd r.n r.b r.t).2])
def xq(c:Cl)(snd:Bool):Nat->Int->Sn->List Ev->Sn×List Ev
 |0,_,st,es=>(st,es)
 |m+1,n,st,es=>xq c snd m (n+1) (y3 c (yz c st) snd n st.b 0).1 (es ++ [(y3 c (yz c st) snd n st.b 0).2])
def yo(st:Sn):List Tr:=xu Tr.l Tr.of ((st.w.filter λe=>decide (e.d<=st.b)).map λe=>⟨e.n,e.b,e.t⟩)
def zy(st:Sn):Sn:={ st with w:=st.w.filter λe=>decide (st.b<e.d) }
def y8(c:Cl)(st:Sn)(snd:Bool)(many:Nat):Sn×List Ev :=
 let r1:=yk c snd (yo st) (zy st) []
 let r2:=xq c snd many st.k r1.1 r1.2
 ({ r2.1 with b:=st.b+1,w:=xu En.l En.of r2.1.w },r2.2)
def k7(c:Cl):Sn:=⟨0,[],c.u.f,.op 0,0⟩
structure En.Ok(c:Cl)(e:En):Prop where
 d1:0<=e.d
 d2:e.d<=1000000
 t1:1<=e.t
 t2:e.t<c.p.n
structure Sn.Ok(c:Cl)(s:Sn):Prop where
 b1:0<=s.b
 b2:s.b<=900000
 w:∀e∈s.w,e.Ok c
 c1:0<=s.c
 c2:s.c<=10000
 g:s.g.Ok c.g
theorem ztn{g:Gt}(o:g.Ok){s:Sg}(h:s.Ok g){b:Int}(hb:0<=b/\b<=1900000){snd:Bool}:(xf g s b snd).2.Ok g:=by
 have:=ze7 o (s:=s) (b:=b) h;unfold xf
 split
 ·exact zvf o hb this.1
 ·exact this.1
theorem ql(c:Cl)(st:Sn)(snd:Bool)(n b t:Int):(y3 c st snd n b t).1.b=st.b/\(y3 c st snd n b t).1.k=st.k:=by
 unfold y3
 split
 ·exact⟨rfl,rfl⟩
 ·simp only[za4]
  split <;> exact⟨rfl,rfl⟩
theorem kw(c:Cl)(st:Sn)(snd:Bool)(n b t:Int):(y3 c st snd n b t).1.w.length<=st.w.length+1:=by
 unfold y3
 split
 ·simp
 ·simp only[za4]
  split <;> simp
theorem qm{c:Cl}(o:c.Ok){st:Sn}(h:st.Ok c){snd:Bool}{n b t:Int}(ht:0<=t)(ht2:t<c.p.n):(y3 c st snd n b t).1.Ok c:=by
 have gk:=ztn o.g h.g (b:=st.b) (by have:=h.b1;have:=h.b2;lia) (snd:=snd);unfold y3
 split
 ·exact⟨h.b1,h.b2,h.w,h.c1,h.c2,gk⟩
 ·unfold whL
  split
  ·exact⟨h.b1,h.b2,h.w,h.c1,h.c2,gk⟩
  ·split
   ·exact⟨h.b1,h.b2,h.w,h.c1,h.c2,gk⟩
   ·split
    ·exact⟨h.b1,h.b2,h.w,h.c1,h.c2,gk⟩
    ·have bd:=zgo o.p.g ((t+1).toNat-1);have:=h.b1;have:=h.b2;have:=h.c1;have:=h.c2;have:=o.u.p1;refine⟨h.b1,h.b2,λe he=>?_,by simp only[za4];lia,by simp only[za4];lia,gk⟩;simp only[za4]at he;rcases List.mem_append.mp he with he|he
     ·exact h.w e he
     ·cases List.mem_singleton.mp he;exact⟨by simp only[];lia,by simp only[];lia,by simp only[];lia,by simp only[];lia⟩
theorem za5{c:Cl}(o:c.Ok){st:Sn}(h:st.Ok c):(yz c st).Ok c:=by
 have:=h.c1;have:=h.c2;have:=o.u.a1;have:=o.u.c1;have:=o.u.c2;exact⟨h.b1,h.b2,h.w,by simp only[yz];lia,by simp only[yz];lia,h.g⟩
def Tr.Ok(c:Cl)(r:Tr):Prop:=0<=r.t/\r.t<c.p.n
theorem zby{c:Cl}(o:c.Ok){snd:Bool}:∀(rs:List Tr) (st:Sn) (es:List Ev),(∀r∈rs,r.Ok c)->st.Ok c->(yk c snd rs st es).1.Ok c/\(yk c snd rs st es).1.b=st.b/\(yk c snd rs st es).1.k=st.k/\(yk c snd rs st es).1.w.length<=st.w.length+rs.length/\(yk c snd rs st es).2.length=es.length+rs.length
 |[],st,es,_,h=>⟨h,rfl,rfl,by simp[yk],by simp[yk]⟩
 |r::rs,st,es,hr,h=>by
  obtain⟨h1,h2⟩:=hr r List.mem_cons_self;have tb:=ql c st snd r.n r.b r.t;have tl:=kw c st snd r.n r.b r.t;obtain⟨q1,q2,q3,q4,q5⟩:=zby o rs (y3 c st snd r.n r.b r.t).1 (es ++ [(y3 c st snd r.n r.b r.t).2]) (λx hx=>hr x (List.mem_cons_of_mem _ hx)) (qm o h h1 h2);simp only[yk];refine⟨q1,q2.trans tb.1,q3.trans tb.2,?_,?_⟩
  ·rw[List.length_cons];(clear h1 h2 tb q2 q3;lia)
  ·rw[q5];simp;(clear h1 h2 tb tl q2 q3 q4 q5;lia)
theorem zj3{c:Cl}(o:c.Ok){snd:Bool}:∀(m:Nat) (n:Int) (st:Sn) (es:List Ev),st.Ok c->(xq c snd m n st es).1.Ok c/\(xq c snd m n st es).1.b=st.b/\(xq c snd m n st es).1.k=st.k+m/\(xq c snd m n st es).1.w.length<=st.w.length+m/\(xq c snd m n st es).2.length=es.length+m
 |0,n,st,es,h=>⟨h,rfl,by simp[xq],by simp[xq],by simp[xq]⟩
 |m+1,n,st,es,h=>by
  have n1:=o.p.n1;have tb:=ql c (yz c st) snd n st.b 0;have tl:=kw c (yz c st) snd n st.b 0;obtain⟨q1,q2,q3,q4,q5⟩:=zj3 o m (n+1) (y3 c (yz c st) snd n st.b 0).1 (es ++ [(y3 c (yz c st) snd n st.b 0).2]) (qm o (za5 o h) (by decide) (by (clear tb tl;lia)));simp only[xq];have a1:(yz c st).b=st.b:=rfl;have a2:(yz c st).k=st.k+1:=rfl;have a3:(yz c st).w=st.w:=rfl;refine⟨q1,q2.trans tb.1,by rw[q3,tb.2,a2];(clear n1 tb tl q2 q3 q4 q5 a1 a2;lia),?_,?_⟩
  ·rw[a3]at tl;(clear n1 tb q2 q3;lia)
  ·rw[q5];simp;(clear n1 tb tl q2 q3 q4 q5 a1 a2;lia)
def qo:DSp:=λws Q=>∃(u:Ps) (c m:Int),ws = [.val u.D,.val (.int c),.val (.int m)]/\u.Ok/\0<=m/\m<=1000000000/\Q (.val (.int (min (c+m * u.a) u.c)))
theorem zcn(B:Blt mg)(F:Fun K "coins_asked" "coins_asked" wr f fd):FnOk P w K mg base CX0 1 f fd ["purse", "coins", "many"] (ye K qo):=by
 refine F.dok zcj (λws Q h=>?_) (λcdv A outer s H ws Q E hr h=>?_)
 ·obtain⟨u,c,m,rfl,_⟩:=h;rfl
 obtain⟨u,c,m,rfl,o,m1,m2,q⟩:=h;have:=o.a1;have:=o.a2;simp only[Ps.D];refine⟨_,(zh (zu (yx (j4 rfl) rfl B.min boot_min (zt (DE.dv (zp z6 (zc 1) (DE.dv (zp jz (zc 2) (DE.dv (zm (zc 0) zb (λ_ _=>rfl))))))) (zt (DE.dv (zm (zc 0) zb (λ_ _=>rfl))) yi))))),?_⟩;walk_at "ds";refine⟨_,zw _ _,?_⟩;walk_at "ds";refine⟨we (by omega) (by omega) (by omega) (by lia),_,xw _ _ _ _,?_⟩;walk_at "ds";exact q
def jr:DSp:=λws Q=>∃(u:Ps) (c:Int),ws = [.val u.D,.val (.int c)]/\Q (.val (.bool (decide (u.p<=c))))
theorem zim(B:Blt mg)(F:Fun K "can_pay" "can_pay" za0 f fd):FnOk P w K mg base CX0 1 f fd ["purse", "coins"] (ye K jr):=by
 refine F.dok zik (λws Q h=>?_) (λcdv A outer s H ws Q E hr h=>?_)
 ·obtain⟨u,c,rfl,_⟩:=h;rfl
 obtain⟨u,c,rfl,q⟩:=h;simp only[Ps.D];refine⟨_,(zh (zu (zl3 zpd (zc 1) (DE.dv (zm (zc 0) zb (λ_ _=>rfl))) (z0 _)))),?_⟩;walk_at "ds";refine⟨_,ym _ _ _,?_⟩;walk_at "ds";exact q
def qp:DSp:=λws Q=>∃(u:Ps) (c:Int) (k:Bool),ws = [.val u.D,.val (.int c),.val (.str (if k=true then "k" else "a"))]/\u.Ok/\Q (.val (.int (if k=true then (if u.p<=c then c-u.p else c) else min (c+1 * u.a) u.c)))
theorem zvg:¬ ((Str.ofString "k")=(Str.ofString "a")):=by decide +kernel
theorem zgs(B:Blt mg)(F:Fun K "coins_by" "coins_by" jm f fd){t_ASK:Tok}(G_ASK:mg "ASK" = some (.str "a" t_ASK))(C_coins_asked:Cal P w K mg base 1 "coins_asked" ["purse", "coins", "many"] (ye K qo))(C_can_pay:Cal P w K mg base 1 "can_pay" ["purse", "coins"] (ye K jr)):FnOk P w K mg base CX0 2 f fd ["purse", "coins", "sign"] (ye K qp):=by
 refine F.dok zgn (λws Q h=>?_) (λcdv A outer s H ws Q E hr h=>?_)
 ·obtain⟨u,c,k,rfl,_⟩:=h;rfl
 obtain⟨u,c,k,rfl,o,q⟩:=h;refine⟨_,(zd (yp (yb (k5 hr) (zc 2) (DE.dv (yh (d:=.str "a") (v:=.str "a") rfl G_ASK ⟨_,rfl⟩ (λ_=>.str))) (z0 _)) (zh (zu (zn C_coins_asked hr rfl (zj 0 (zj 1 (z7 zb zr yg)))))) ya) (zd (yp (x5 (DE.dv (zn C_can_pay hr rfl (zj 0 (zj 1 zr))))) (zh (zu (zp zfr (zc 1) (DE.dv (zm (zc 0) zb (λ_ _=>rfl)))))) ya) (zh (zu (zg 1))))),?_⟩
 cases k with
 |false=>
  walk_at "ds";exact⟨u,c,1,rfl,o,by decide,by decide,q⟩
 |true=>
  walk_at "ds";rw[if_neg zvg];refine⟨u,c,rfl,?_⟩;simp only[Ps.D];walk_at "ds";rw[if_pos rfl]at q
  by_cases c1:u.p<=c
  ·rw[if_pos c1];rw[if_pos c1]at q;refine⟨_,ym _ _ _,?_⟩;walk_at "ds";exact q
  ·rw[if_neg c1];rw[if_neg c1]at q;exact q
def zbe:DSp:=λws Q=>∃(c:Cl),ws = [.val c.D]/\Q (.val (k7 c).D)
theorem zgt(B:Blt mg)(F:Fun K "first_of" "first_of" jn f fd){ga_FIRST_STANDING:Addr}(G_FIRST_STANDING:mg "FIRST_STANDING" = some (.ref ga_FIRST_STANDING))(N_FIRST_STANDING:∀H,Rep K H (.tuple [(.str "open"),(.int 0)]) (.ref ga_FIRST_STANDING)):FnOk P w K mg base CX0 1 f fd ["caller"] (ye K zbe):=by
 refine F.dok sc_first_of (λws Q h=>?_) (λcdv A outer s H ws Q E hr h=>?_)
 ·obtain⟨c,rfl,_⟩:=h;rfl
 obtain⟨c,rfl,q⟩:=h;simp only[Cl.D,Ps.D];refine⟨_,(zd (yu (zg 0) (yq (n:=3) rfl (ze (zf (i:=1) sc_first_of.nd rfl (Or.inl rfl)) (ze (zf (i:=2) sc_first_of.nd rfl (Or.inl rfl)) (ze (zf (i:=3) sc_first_of.nd rfl (Or.inl rfl)) yf))))) (zh (zu (zo (za zb (za (zo zi) (za (zm (zc 2) zb (λ_ _=>rfl)) (za (yh (v:=.ref _) rfl G_FIRST_STANDING rfl N_FIRST_STANDING) (za zb zi yg))) zao) yg))))),?_⟩;walk_at "ds";refine⟨_,xh _ _ _ _ _,?_⟩;walk_at "ds";exact q
def zco:DSp:=λws Q=>∃(g:Gt) (s:Sg) (b:Int) (snd:Bool),ws = [.val g.D,.val s.D,.val (.int b),.val (.bool snd)]/\g.Ok/\s.Ok g/\Q (.val (.tuple [wdE (xf g s b snd).1,(xf g s b snd).2.D]))
theorem zin(B:Blt mg)(F:Fun K "knocked" "knocked" za1 f fd){t_HELD:Tok}(G_HELD:mg "HELD" = some (.str "held" t_HELD)){t_SERVED:Tok}(G_SERVED:mg "SERVED" = some (.str "served" t_SERVED)){t_SILENT:Tok}(G_SILENT:mg "SILENT" = some (.str "silent" t_SILENT))(C_lets:Cal P w K mg base 1 "lets" ["gate", "standing", "beat"] (ye K zj2))(C_heard:Cal P w K mg base 2 "heard" ["gate", "standing", "beat", "answered"] (ye K zgr)):FnOk P w K mg base CX0 3 f fd ["gate", "standing", "beat", "sound"] (ye K zco):=by
 refine F.dok sc_knocked (λws Q h=>?_) (λcdv A outer s H ws Q E hr h=>?_)
 ·obtain⟨g,s,b,snd,rfl,_⟩:=h;rfl
 obtain⟨g,s,b,snd,rfl,o,os,q⟩:=h;have lk:=ze7 o (s:=s) (b:=b) os;refine⟨_,(zd (yu (zn C_lets hr rfl (zj 0 (zj 1 (zj 2 zr)))) (yq (n:=2) rfl (ze (zf (i:=4) sc_knocked.nd rfl (Or.inl rfl)) (ze (zf (i:=5) sc_knocked.nd rfl (Or.inl rfl)) yf)))) (zd (yp (zec (x5 (zc 4))) (zh (zu (zo (za (yh (d:=.str "held") (v:=.str "held") rfl G_HELD ⟨_,rfl⟩ (λ_=>.str)) (za (zg 5) zi))))) ya) (zh (zu (zo (za (xy (x5 (zc 3)) (yh (d:=.str "served") (v:=.str "served") rfl G_SERVED ⟨_,rfl⟩ (λ_=>.str)) (yh (d:=.str "silent") (v:=.str "silent") rfl G_SILENT ⟨_,rfl⟩ (λ_=>.str))) (za (zn C_heard hr rfl (zj 0 (zj 5 (zj 2 (zj 3 zr))))) zi))))))),?_⟩;walk_at "ds";refine⟨g.D,s,b,rfl,?_⟩;simp only[ltD];walk_at "ds";unfold xf at q
 cases c:(xg s b).1 with
 |false=>
  rw[c]at q;walk_at "ds";exact q
 |true=>
  rw[c,if_pos rfl]at q;walk_at "ds"
  cases snd with
  |true=>
   walk_at "ds";exact⟨g,_,b,true,rfl,o,lk.1,lk.2 c,q⟩
  |false=>
   walk_at "ds";exact⟨g,_,b,false,rfl,o,lk.1,lk.2 c,q⟩
def jt:DSp:=λws Q=>∃(c:Cl) (co b bg t:Int),ws = [.val c.D,.val (.int co),.val (.int b),.val (.int bg),.val (.int t)]/\c.Ok/\1<=t/\t<=10000/\Q (.val (whL c co b bg t).D)
theorem zio(B:Blt mg)(F:Fun K "what_of" "what_of" za2 f fd)(C_gap_at:Cal P w K mg base 2 "gap_at" ["gaps", "k"] (ye K zd2))(C_can_pay:Cal P w K mg base 1 "can_pay" ["purse", "coins"] (ye K jr)):FnOk P w K mg base CX0 3 f fd ["caller", "coins", "beat", "begin", "tries"] (ye K jt):=by
 refine F.dok sc_what_of (λws Q h=>?_) (λcdv A outer s H ws Q E hr h=>?_)
 ·obtain⟨c,co,b,bg,t,rfl,_⟩:=h;rfl
 obtain⟨c,co,b,bg,t,rfl,o,t1,t2,q⟩:=h;simp only[Cl.D,Pl.D];refine⟨_,(zd (yu (zg 0) (yq (n:=3) rfl (ze (yq (n:=3) rfl (ze (zf (i:=5) sc_what_of.nd rfl (Or.inl rfl)) (ze (zf (i:=6) sc_what_of.nd rfl (Or.inl rfl)) (ze (zf (i:=7) sc_what_of.nd rfl (Or.inl rfl)) yf)))) (ze (zf (i:=8) sc_what_of.nd rfl (Or.inl rfl)) (ze (zf (i:=9) sc_what_of.nd rfl (Or.inl rfl)) yf))))) (zd (yp (yb (k5 hr) (zc 4) (zc 6) (z0 _)) (zh (zu yn)) ya) (zd (yc (i:=10) sc_what_of.nd rfl (Or.inl rfl) (zp z6 (zc 2) (DE.dv (zn C_gap_at hr rfl (zj 5 (zj 4 zr)))))) (zd (yp (yb zpc (zc 10) (DE.dv (zp z6 (zc 3) (zc 7))) (z0 _)) (zh (zu yn)) ya) (zd (yp (zec (x5 (DE.dv (zn C_can_pay hr rfl (zj 8 (zj 1 zr)))))) (zh (zu yn)) ya) (zh (zu (zg 10)))))))),?_⟩;walk_at "ds";unfold whL at q
 by_cases c1:t=c.p.n
 ·rw[if_pos c1];rw[if_pos c1]at q;exact q
 ·rw[if_neg c1];rw[if_neg c1]at q;refine⟨c.p.g,t,rfl,o.p.g,t1,t2,?_⟩;walk_at "ds"
  by_cases c2:bg+c.p.t<b+gp c.p.g (t.toNat-1)
  ·rw[if_pos c2];rw[if_pos c2]at q;exact q
  ·rw[if_neg c2];rw[if_neg c2]at q;refine⟨c.u,co,rfl,?_⟩;walk_at "ds"
   by_cases c3:c.u.p<=co
   ·rw[if_neg (by (clear t1 t2 c2;lia))];rw[if_neg (by (clear t1 t2 c2;lia))]at q;exact q
   ·rw[if_pos (by omega)];rw[if_pos (by (clear t1 t2 c2;lia))]at q;exact q
def trD(r:Sn×Ev):D:=.tuple [r.1.D,r.2.D]
def zgu:DSp:=λws Q=>∃(c:Cl) (st:Sn) (snd:Bool) (n b t:Int),ws = [.val c.D,.val st.D,.val (.bool snd),.val (.int n),.val (.int b),.val (.int t)]/\c.Ok/\st.Ok c/\0<=t/\t<c.p.n/\st.w.length<=10000/\Q (.val (trD (y3 c st snd n b t)))
theorem zn7:¬ ((Str.ofString "held")=(Str.ofString "served")):=by decide +kernel
theorem zn8:¬ ((Str.ofString "silent")=(Str.ofString "served")):=by decide +kernel
theorem zn9(B:Blt mg)(F:Fun K "tried" "tried" ze2 f fd){t_SERVED:Tok}(G_SERVED:mg "SERVED" = some (.str "served" t_SERVED)){t_KNOCK:Tok}(G_KNOCK:mg "KNOCK" = some (.str "k" t_KNOCK))(C_coins_by:Cal P w K mg base 2 "coins_by" ["purse", "coins", "sign"] (ye K qp))(C_knocked:Cal P w K mg base 3 "knocked" ["gate", "standing", "beat", "sound"] (ye K zco))(C_what_of:Cal P w K mg base 3 "what_of" ["caller", "coins", "beat", "begin", "tries"] (ye K jt)):FnOk P w K mg base CX0 4 f fd ["caller", "standing", "sound", "number", "begin", "tries"] (ye K zgu):=by
 refine F.dok sc_tried (λws Q h=>?_) (λcdv A outer s H ws Q E hr h=>?_)
 ·obtain⟨c,st,snd,n,b,t,rfl,_⟩:=h;rfl
 obtain⟨c,st,snd,n,b,t,rfl,o,os,t1,t2,hl,q⟩:=h;have n2:=o.p.n2;simp only[Sn.D,Cl.D];refine⟨_,(zd (yu (zg 1) (yq (n:=5) rfl (ze (zf (i:=6) sc_tried.nd rfl (Or.inl rfl)) (ze (zf (i:=7) sc_tried.nd rfl (Or.inl rfl)) (ze (zf (i:=8) sc_tried.nd rfl (Or.inl rfl)) (ze (zf (i:=9) sc_tried.nd rfl (Or.inl rfl)) (ze (zf (i:=10) sc_tried.nd rfl (Or.inl rfl)) yf))))))) (zd (yu (zn C_knocked hr rfl (z7 (zm (zc 0) zb (λ_ _=>rfl)) (zj 9 (zj 6 (zj 2 zr))))) (yq (n:=2) rfl (ze (zf (i:=11) sc_tried.nd rfl (Or.inl rfl)) (ze (zf (i:=9) sc_tried.nd rfl (Or.inl rfl)) yf)))) (zd (yp (yb (k5 hr) (zc 11) (DE.dv (yh (d:=.str "served") (v:=.str "served") rfl G_SERVED ⟨_,rfl⟩ (λ_=>.str))) (z0 _)) (zh (zu (zo (za (zo (za (zg 6) (za (zg 7) (za (zg 8) (za (zg 9) (za (zg 10) zi)))))) (za (zo (za (zg 3) (za (zg 11) (za zhh zi yg)))) zi zao) zao)))) ya) (zd (yc (i:=12) sc_tried.nd rfl (Or.inl rfl) (zn C_what_of hr rfl (zj 0 (zj 8 (zj 6 (zj 4 (z7 (zp z6 (zc 5) (DE.dv zb)) zr))))))) (zd (yp (zec (x5 (DE.dv (zsq (n := "str") zu2 rfl B.isinstance boot_isinstance (zc 12) rfl B.strT boot_str)))) (zd (yc (i:=8) sc_tried.nd rfl (Or.inl rfl) (zn C_coins_by hr rfl (z7 (zm (zc 0) zb (λ_ _=>rfl)) (zj 8 (z7 (yh (d:=.str "k") (v:=.str "k") rfl G_KNOCK ⟨_,rfl⟩ (λ_=>.str)) zr))))) (zh (yc (i:=7) sc_tried.nd rfl (Or.inl rfl) (zp z6 (zc 7) (DE.dv (zo (za (zo (za (zg 12) (za (zg 3) (za (zg 4) (za (zp z6 (zc 5) (DE.dv zb)) zi))))) zi zao))))))) ya) (zh (zu (zo (za (zo (za (zg 6) (za (zg 7) (za (zg 8) (za (zg 9) (za (zg 10) zi)))))) (za (zo (za (zg 3) (za (zg 11) (za (zg 12) zi)))) zi zao) zao))))))))),?_⟩;walk_at "ds";refine⟨_,xw _ _ _ _,?_⟩;refine⟨c.g,st.g,st.b,snd,rfl,o.g,os.g,?_⟩;walk_at "ds";unfold y3 at q;have go:∀w:Option Bool,(xf c.g st.g st.b snd).1=w->w≠some true->jt [.val c.D,.val (.int st.c),.val (.int st.b),.val (.int b),.val (.int (t+1))] λr=>r=.val (whL c st.c st.b b (t+1)).D:=λw _ _=>⟨c,st.c,st.b,b,t+1,rfl,o,by lia,by lia,rfl⟩
 cases e:(xf c.g st.g st.b snd).1 with
 |none=>
  rw[e,if_neg (by decide)]at q;simp only[wdE];walk_at "ds";rw[if_neg zn7];refine⟨c,st.c,st.b,b,t+1,rfl,o,by lia,by lia,?_⟩
  cases ew:whL c st.c st.b b (t+1) with
  |due d=>
   rw[ew]at q;simp only[Wt.D];walk_at "ds";refine⟨_,ym _ _ _,?_⟩;refine⟨c.u,st.c,true,rfl,o.u,?_⟩;walk_at "ds";have hp:c.u.p<=st.c:=by
    unfold whL at ew
    split at ew
    ·cases ew
    ·split at ew
     ·cases ew
     ·split at ew
      ·cases ew
      ·lia
   rw[if_pos hp];rw[List.length_map];refine⟨by lia,?_⟩;simp only[trD,za4,Sn.D,Ev.D,Wt.D,wdE]at q;rw[List.map_append]at q;exact q
  |non=>
   rw[ew]at q;simp only[Wt.D];exfalso;unfold whL at ew
   split at ew
   ·cases ew
   ·split at ew
    ·cases ew
    ·split at ew <;> cases ew
  |kno=>rw[ew]at q;simp only[Wt.D];walk_at "ds";exact q
  |tim=>rw[ew]at q;simp only[Wt.D];walk_at "ds";exact q
  |pur=>rw[ew]at q;simp only[Wt.D];walk_at "ds";exact q
 |some w=>
  cases w with
  |true=>
   rw[e,if_pos rfl]at q;simp only[wdE];walk_at "ds";exact q
  |false=>
   rw[e,if_neg (by decide)]at q;simp only[wdE];walk_at "ds";rw[if_neg zn8];refine⟨c,st.c,st.b,b,t+1,rfl,o,by lia,by lia,?_⟩
   cases ew:whL c st.c st.b b (t+1) with
   |due d=>
    rw[ew]at q;simp only[Wt.D];walk_at "ds";refine⟨_,ym _ _ _,?_⟩;refine⟨c.u,st.c,true,rfl,o.u,?_⟩;walk_at "ds";have hp:c.u.p<=st.c:=by
     unfold whL at ew
     split at ew
     ·cases ew
     ·split at ew
      ·cases ew
      ·split at ew
       ·cases ew
       ·lia
    rw[if_pos hp];rw[List.length_map];refine⟨by lia,?_⟩;simp only[trD,za4,Sn.D,Ev.D,Wt.D,wdE]at q;rw[List.map_append]at q;exact q
   |non=>
    rw[ew]at q;simp only[Wt.D];exfalso;unfold whL at ew
    split at ew
    ·cases ew
    ·split at ew
     ·cases ew
     ·split at ew <;> cases ew
   |kno=>rw[ew]at q;simp only[Wt.D];walk_at "ds";exact q
   |tim=>rw[ew]at q;simp only[Wt.D];walk_at "ds";exact q
   |pur=>rw[ew]at q;simp only[Wt.D];walk_at "ds";exact q
def zgv:DSp:=λws Q=>∃(c:Cl) (st:Sn),ws = [.val c.D,.val st.D]/\c.Ok/\Q (.val (yz c st).D)
theorem zoa(B:Blt mg)(F:Fun K "asked" "asked" ze3 f fd){t_ASK:Tok}(G_ASK:mg "ASK" = some (.str "a" t_ASK))(C_coins_by:Cal P w K mg base 2 "coins_by" ["purse", "coins", "sign"] (ye K qp)):FnOk P w K mg base CX0 3 f fd ["caller", "standing"] (ye K zgv):=by
 refine F.dok sc_asked (λws Q h=>?_) (λcdv A outer s H ws Q E hr h=>?_)
 ·obtain⟨c,st,rfl,_⟩:=h;rfl
 obtain⟨c,st,rfl,o,q⟩:=h;simp only[Sn.D,Cl.D];refine⟨_,(zd (yu (zg 1) (yq (n:=5) rfl (ze (zf (i:=2) sc_asked.nd rfl (Or.inl rfl)) (ze (zf (i:=3) sc_asked.nd rfl (Or.inl rfl)) (ze (zf (i:=4) sc_asked.nd rfl (Or.inl rfl)) (ze (zf (i:=5) sc_asked.nd rfl (Or.inl rfl)) (ze (zf (i:=6) sc_asked.nd rfl (Or.inl rfl)) yf))))))) (zh (zu (zo (za (zg 2) (za (zg 3) (za (zn C_coins_by hr rfl (z7 (zm (zc 0) zb (λ_ _=>rfl)) (zj 4 (z7 (yh (d:=.str "a") (v:=.str "a") rfl G_ASK ⟨_,rfl⟩ (λ_=>.str)) zr)))) (za (zg 5) (za (zp z6 (zc 6) (DE.dv zb)) zi))))))))),?_⟩;walk_at "ds";refine⟨_,ym _ _ _,?_⟩;exact⟨c.u,st.c,false,rfl,o.u,q⟩
def CmpD(d e:D)(u v:List Int):Prop:=(d=e/\u=v)\/(d≠e/\(∀s t,u++s≠v++t)/\LtR d e (decide (u<v))/\∀s t,decide (u++s<v++t)=decide (u<v))
def CmpL(ds es:List D)(u v:List Int):Prop:=(ds=es/\u=v)\/(ds≠es/\(∀s t,u++s≠v++t)/\LtRs ds es (decide (u<v))/\∀s t,decide (u++s<v++t)=decide (u<v))
theorem za6:∀(u a b:List Int),decide (u++a<u++b)=decide (a<b)
 |[],_,_=>rfl
 |x::u,a,b=>by
  rw[<-za6 u a b,List.cons_append,List.cons_append];exact decide_eq_decide.mpr (by rw[List.cons_lt_cons_iff];simp)
theorem CmpD.int(a c:Int):CmpD (.int a) (.int c) [a] [c]:=by
 by_cases z:a=c
 ·subst z;exact .inl ⟨rfl,rfl⟩
 ·have e:decide ([a] < [c])=decide (a<c):=decide_eq_decide.mpr (by rw[List.cons_lt_cons_iff];simp);refine .inr ⟨λh=>z (PyData.int.inj h),λs t h=>?_,by rw[e];exact .int a c,λs t=>?_⟩
  ·simp only[List.cons_append,List.nil_append,List.cons.injEq]at h;exact z h.1
  ·rw[e];exact decide_eq_decide.mpr (by rw[List.cons_append,List.cons_append,List.cons_lt_cons_iff];simp[z])
theorem CmpL.nil:CmpL [] [] [] []:=.inl ⟨rfl,rfl⟩
theorem CmpL.ne{d e:D}{u v:List Int}(ds es:List D)(us vs:List Int)(n:d≠e)(np:∀s t,u++s≠v++t)(l:LtR d e (decide (u<v)))(p:∀s t,decide (u++s<v++t)=decide (u<v)):CmpL (d::ds) (e::es) (u++us) (v++vs):=by
 refine .inr ⟨λh=>n (List.cons.inj h).1,λs t=>?_,by rw[p];exact .ne ds es n l,λs t=>?_⟩
 ·rw[List.append_assoc,List.append_assoc];exact np _ _
 ·rw[List.append_assoc,List.append_assoc,p,p]
theorem CmpL.cons{d e:D}{ds es:List D}{u v us vs:List Int}(h:CmpD d e u v)(t:CmpL ds es us vs):CmpL (d::ds) (e::es) (u++us) (v++vs):=by
 rcases h with⟨rfl,rfl⟩ |⟨n,np,l,p⟩
 ·rcases t with⟨rfl,rfl⟩ |⟨n,np,l,p⟩
  ·exact .inl ⟨rfl,rfl⟩
  ·refine .inr ⟨λh=>n (List.cons.inj h).2,λs t h=>?_,by rw[za6];exact .eq d l,λs t=>?_⟩
   ·rw[List.append_assoc,List.append_assoc]at h;exact np s t (List.append_cancel_left h)
   ·rw[List.append_assoc,List.append_assoc,za6,za6,p]
 ·exact .ne ds es us vs n np l p
theorem CmpD.tup{ds es:List D}{u v:List Int}(h:CmpL ds es u v):CmpD (.tuple ds) (.tuple es) u v:=by
 rcases h with⟨rfl,rfl⟩ |⟨n,np,l,p⟩
 ·exact .inl ⟨rfl,rfl⟩
 ·exact .inr ⟨λh=>n (PyData.tuple.inj h),np,.tup l,p⟩
theorem CmpL.pre{ds es:List D}{u v:List Int}(x:Int)(h:CmpL ds es u v):CmpL ds es (x::u) (x::v):=by
 have e:decide (x::u<x::v)=decide (u<v):=za6 [x] u v;rcases h with⟨rfl,rfl⟩ |⟨n,np,l,p⟩
 ·exact .inl ⟨rfl,rfl⟩
 ·refine .inr ⟨n,λs t h=>np s t (List.cons.inj h).2,by rw[e];exact l,λs t=>?_⟩;rw[e,<-p s t];exact za6 [x] _ _
theorem CmpL.ints:∀{l m:List Int},l.length=m.length->CmpL (l.map PyData.int) (m.map PyData.int) l m
 |[],[],_=>.nil
 |[],_::_,h=>nomatch h
 |_::_,[],h=>nomatch h
 |a::l,c::m,h=>.cons (.int a c) (CmpL.ints (Nat.succ.inj h))
mutual
theorem zto:∀d:D,qc d=true->LtR d d false
 |.int a,_=>by have:=LtR.int a a;rwa [decide_eq_false (Int.lt_irrefl a)]at this
 |.str x,_=>by have:=LtR.str x x;rwa [decide_eq_false (List.lt_irrefl _)]at this
 |.tuple ds,h=>.tup (ltrs_rf ds (by rw[qc]at h;exact h))
 |.none,h=>by simp[qc]at h
 |.bool _,h=>by simp[qc]at h
 |.list _,h=>by simp[qc]at h
 |.dict _,h=>by simp[qc]at h
theorem ltrs_rf:∀ds:List D,keyBs ds=true->LtRs ds ds false
 |[],_=>.nn
 |d::ds,h=>.eq d (ltrs_rf ds (by rw[keyBs,Bool.and_eq_true]at h;exact h.2))
end
theorem ziq{α:Type}{f:α->D}{enc:α->List Int}(h:∀x y,CmpD (f x) (f y) (enc x) (enc y))(inj:∀x y,enc x=enc y->x=y)(hd:∀x,∃i ds,f x=.tuple (.int i::ds))(ky:∀x,KyD (f x)):SQ.SEnc f enc where
 lt:=λx y=>by
  rcases h x y with⟨e1,e2⟩ |⟨_,_,l,_⟩
  ·rw[e1,e2,decide_eq_false (List.lt_irrefl _)];exact zto _ (ky y).2.1
  ·exact l
 inj:=inj
 hd:=hd
 ky:=ky
theorem zob(a b c d:Int):KyD (tD [a,b,c,d]):=⟨⟨_,rfl⟩,rfl,rfl,by simp[tD,PyData.depth,PyData.depthAll]⟩
theorem zle(a b c:Int):KyD (tD [a,b,c]):=⟨⟨_,rfl⟩,rfl,rfl,by simp[tD,PyData.depth,PyData.depthAll]⟩
theorem zoc:SQ.SEnc En.D En.l:=ziq (λx y=>.tup (.ints rfl)) (λx y h=>by rw[<-En.of_l x,h,En.of_l]) (λx=>⟨_,_,rfl⟩) λx=>zob _ _ _ _
theorem ztp:SQ.SEnc (λa=>tD (Tr.l a)) Tr.l:=ziq (λx y=>.tup (.ints rfl)) (λx y h=>by rw[<-Tr.of_l x,h,Tr.of_l]) (λx=>⟨_,_,rfl⟩) λx=>zle _ _ _
theorem ze8{α:Type}{l:α->List Int}{of:List Int->α}(h:∀a,of (l a)=a){xs zs:List α}(p:zs.Perm xs)(w:(zs.map l).Pairwise λa b=>¬ b<a):zs=xu l of xs:=by
 unfold xu;rw[<-zca (p.map l) w,List.map_map];exact((List.map_congr_left λa _=>h a).trans (List.map_id _)).symm
end
section
variable {P:Program}{w:World}{K:PySem.W.Frag}{mg:Str->Option Value}{base:Heap}{f:Addr}{fd:FuncData}
def stD(r:Sn×List Ev):D:=.tuple [r.1.D,.tuple (r.2.map Ev.D)]
def zcp:DSp:=λws Q=>∃(c:Cl) (st:Sn) (snd:Bool) (m:Nat),ws = [.val c.D,.val st.D,.val (.bool snd),.val (.int m)]/\c.Ok/\st.Ok c/\st.w.length<=1000/\m<=1000/\(0<=st.k/\st.k<=1000000)/\Q (.val (stD (y8 c st snd m)))
theorem zir(B:Blt mg)(F:Fun K "stepped" "stepped" za3 f fd)(C_tried:Cal P w K mg base 4 "tried" ["caller", "standing", "sound", "number", "begin", "tries"] (ye K zgu))(C_asked:Cal P w K mg base 3 "asked" ["caller", "standing"] (ye K zgv)):FnOk P w K mg base CX0 5 f fd ["caller", "standing", "sound", "many"] (ye K zcp):=by
 refine F.dok sc_stepped (λws Q h=>?_) (λcdv A outer s H ws Q E hr h=>?_)
 ·obtain⟨c,st,snd,m,rfl,_⟩:=h;rfl
 obtain⟨c,st,snd,m,rfl,o,os,hl,hm,hk,q⟩:=h;simp only[Sn.D];refine⟨_,(zd (yu (zg 1) (yq (n:=5) rfl (ze (zf (i:=4) sc_stepped.nd rfl (Or.inr rfl)) (ze (zf (i:=5) sc_stepped.nd rfl (Or.inl rfl)) (ze (zf (i:=6) sc_stepped.nd rfl (Or.inl rfl)) (ze (zf (i:=7) sc_stepped.nd rfl (Or.inl rfl)) (ze (zf (i:=8) sc_stepped.nd rfl (Or.inl rfl)) yf))))))) (zd (yc (i:=9) sc_stepped.nd rfl (Or.inl rfl) (DF.de (j3 (zbx hr) rfl B.sorted boot_sorted (zt (DE.dv (DF.de (zb4 rfl (N':=["at", "number", "begin", "tries", "beat"]) (capt:=["beat"]) (k:=4) (js:=[4]) ⟨rfl,by decide,rfl,by decide,(.cons rfl .nil),rfl,(.cons rfl (Or.inl rfl) rfl (Or.inl rfl) .nil),rfl,by decide⟩ (wk (zc 5)) (λ_ _ _ _=>(yq (n:=4) rfl (ze (zf (i:=0) (show List.Nodup (["at", "number", "begin", "tries", "beat"]:List Str) by decide +kernel) rfl (Or.inl rfl) (Or.inr rfl)) (ze (zf (i:=1) (show List.Nodup (["at", "number", "begin", "tries", "beat"]:List Str) by decide +kernel) rfl (Or.inl rfl) (Or.inr rfl)) (ze (zf (i:=2) (show List.Nodup (["at", "number", "begin", "tries", "beat"]:List Str) by decide +kernel) rfl (Or.inl rfl) (Or.inr rfl)) (ze (zf (i:=3) (show List.Nodup (["at", "number", "begin", "tries", "beat"]:List Str) by decide +kernel) rfl (Or.inl rfl) (Or.inr rfl)) yf)))))) (λ_ _ _ _=>(ki (yb zwb (zc 0) (zc 4) (z0 _)))) (λ_ _ _ _=>(zo (za (zg 1) (za (zg 2) (za (zg 3) zi)))))))) yi)))) (zd (yc (i:=10) sc_stepped.nd rfl (Or.inl rfl) (zo (za (zg 4) (za (xt kg rfl B.tupleT boot_tuple (zt (DE.dv (DF.de (zb4 rfl (N':=["entry", "beat"]) (capt:=["beat"]) (k:=1) (js:=[4]) ⟨rfl,by decide,rfl,by decide,(.cons rfl .nil),rfl,(.cons rfl (Or.inl rfl) rfl (Or.inl rfl) .nil),rfl,by decide⟩ (wk (zc 5)) (λ_ _ _ _=>(zf (i:=0) (show List.Nodup (["entry", "beat"]:List Str) by decide +kernel) rfl (Or.inl rfl) (Or.inr rfl))) (λ_ _ _ _=>(ki (yb zpc (DE.dv (zm (zc 0) zb (λ_ _=>rfl))) (zc 1) (z0 _)))) (λ_ _ _ _=>(zg 0))))) yi)) (za (zg 6) (za (zg 7) (za (zg 8) zi))))))) (zd (zbq (i:=11) sc_stepped.nd rfl (Or.inl rfl) (x4 zi)) (zd (wn PassesOwn.never rfl (v6 (zg 9)) (yq (n:=3) rfl (ze (zf (i:=12) sc_stepped.nd rfl (Or.inl rfl)) (ze (zf (i:=13) sc_stepped.nd rfl (Or.inl rfl)) (ze (zf (i:=14) sc_stepped.nd rfl (Or.inl rfl)) yf)))) (zd (yu (zn C_tried hr rfl (zj 0 (zj 10 (zj 2 (zj 12 (zj 13 (zj 14 zr))))))) (yq (n:=2) rfl (ze (zf (i:=10) sc_stepped.nd rfl (Or.inl rfl)) (ze (zf (i:=15) sc_stepped.nd rfl (Or.inl rfl)) yf)))) (zh (ww 11 (zg 15))))) (zd (wn PassesOwn.never rfl (zkp rfl B.range (za (zg 8) (za (zp z6 (zc 8) (zc 3)) zi))) (zf (i:=12) sc_stepped.nd rfl (Or.inl rfl)) (zd (yu (zn C_tried hr rfl (zj 0 (z7 (zn C_asked hr rfl (zj 0 (zj 10 zr))) (zj 2 (zj 12 (zj 4 (z7 zb zr yg))))))) (yq (n:=2) rfl (ze (zf (i:=10) sc_stepped.nd rfl (Or.inl rfl)) (ze (zf (i:=15) sc_stepped.nd rfl (Or.inl rfl)) yf)))) (zh (ww 11 (zg 15))))) (zh (zu (zo (za (zp z6 (DE.dv (zo (za (zp z6 (zc 4) (DE.dv zb)) (za (xt kg rfl B.tupleT boot_tuple (zt (DE.dv (DF.de (j3 (zbx hr) rfl B.sorted boot_sorted (zt (DE.dv (zm (zc 10) zb (λ_ _=>rfl))) yi)))) yi)) zi)))) (DE.dv (zfs (zc 10) (zbo zb) zi5))) (za (xt kg rfl B.tupleT boot_tuple (zt (zc 11) yi)) zi))))))))))),?_⟩
 walk_at "ds";rw[List.length_map];refine⟨by lia,kj En.D (λe=>if e.d<=st.b then some (Tr.D ⟨e.n,e.b,e.t⟩) else none) (λe he k hk=>?_) ?_⟩
 ·simp only[En.D,tD,En.l,List.map_cons,List.map_nil]at hk ⊢;walk_at "ds"
  split
  ·next c=>rw[if_pos c]at hk;walk_at "ds";exact hk
  ·next c=>rw[if_neg c]at hk;exact hk
 ·have e1:st.w.filterMap (λe=>if e.d<=st.b then some (Tr.D ⟨e.n,e.b,e.t⟩) else none)=(((st.w.filter λe=>decide (e.d<=st.b)).map λe=>(⟨e.n,e.b,e.t⟩:Tr)).map Tr.l).map tD:=by
   rw[List.map_map,List.map_map];generalize st.w=w
   induction w with
   |nil=>rfl
   |cons x w ih=>
    rw[List.filterMap_cons,List.filter_cons]
    by_cases z:x.d<=st.b
    ·rw[if_pos z,if_pos (decide_eq_true z),ih];rfl
    ·rw[if_neg z,if_neg (by simpa using z),ih]
  rw[e1];refine⟨Tr,λa=>tD (Tr.l a),Tr.l,(st.w.filter λe=>decide (e.d<=st.b)).map λe=>⟨e.n,e.b,e.t⟩,ztp,by rw[List.map_map];rfl,λzs hz hw=>?_⟩;have ez:=ze8 Tr.of_l hz hw;clear hz hw;subst ez;walk_at "ds";refine⟨by lia,kj En.D (λe=>if st.b<e.d then some e.D else none) (λe he k hk=>?_) ?_⟩
  ·simp only[En.D,tD,En.l,List.map_cons,List.map_nil]at hk ⊢;walk_at "ds";refine⟨_,zw _ _,?_⟩;walk_at "ds"
   split
   ·next c=>rw[if_pos c]at hk;exact hk
   ·next c=>rw[if_neg c]at hk;exact hk
  ·have e2:st.w.filterMap (λe=>if st.b<e.d then some e.D else none)=(st.w.filter λe=>decide (st.b<e.d)).map En.D:=by
    generalize st.w=w
    induction w with
    |nil=>rfl
    |cons x w ih=>
     rw[List.filterMap_cons,List.filter_cons]
     by_cases z:st.b<x.d
     ·rw[if_pos z,if_pos (decide_eq_true z),ih];rfl
     ·rw[if_neg z,if_neg (by simpa using z),ih]
   rw[e2];walk_at "ds";have l1:(st.w.filter λe=>decide (st.b<e.d)).length<=st.w.length:=List.length_filter_le _ _;have os0:(zy st).Ok c:=⟨os.b1,os.b2,λe he=>os.w e (List.mem_filter.mp he).1,os.c1,os.c2,os.g⟩
   have hdue:∀r∈yo st,r.Ok c:=λr hr=>by
    have:=(qk Tr.of_l _).mem_iff.mp hr;obtain⟨e,he,rfl⟩:=List.mem_map.mp this;have:=os.w e (List.mem_filter.mp he).1;exact⟨by have:=this.t1;simp only[];(clear hl hm hk l1;lia),this.t2⟩
   have ldue:(yo st).length<=st.w.length:=by
    unfold yo;rw[(qk Tr.of_l _).length_eq,List.length_map];exact List.length_filter_le _ _
   obtain⟨f1,f2,f3,f4,f5⟩:=zby o (snd:=snd) (yo st) (zy st) [] hdue os0;rw[List.length_nil,Nat.zero_add]at f5;have q':Q (.val (stD (let r2:=xq c snd m st.k (yk c snd (yo st) (zy st) []).1 (yk c snd (yo st) (zy st) []).2;({ r2.1 with b:=st.b+1,w:=xu En.l En.of r2.1.w },r2.2)))):=q;clear q;have lr:(zy st).w.length<=st.w.length:=l1;refine xa (λds σ=>∃(rs:List Tr) (s1:Sn) (es:List Ev) (u10 u11 u12 u13:Option W),ds=rs.map (λa=>tD (Tr.l a))/\σ = [some (.val c.D),some (.val st.D),some (.val (.bool snd)),some (.val (.int m)),some (.val (.int st.b)),some (.val (.tuple (st.w.map En.D))),some (.val (.int st.c)),some (.val st.g.D),some (.val (.int st.k)),some (.val (.list ((yo st).map λa=>tD (Tr.l a)))),some (.val s1.D),some (.own (.lst (es.map Ev.D))),u10,u11,u12,u13]/\s1.Ok c/\(∀r∈rs,r.Ok c)/\s1.w.length+rs.length<=2000/\es.length+rs.length<=2000/\yk c snd rs s1 es=yk c snd (yo st) (zy st) []) ?_ ?_ ⟨yo st,zy st,[],none,none,none,none,rfl,rfl,os0,hdue,by (clear hm hk l1 f2 f3 f4;lia),by simp only[List.length_nil];(clear hm hk l1 f2 f3 f4;lia),rfl⟩
   ·rintro d ds σ N ⟨rs,s1,es,u10,u11,u12,u13,e,rfl,o1,hr1,w1,w2,ed⟩ k
    cases rs with
    |nil=>cases e
    |cons r rs=>
     cases e;simp only[tD,Tr.l,List.map_cons,List.map_nil];walk_at "ds";rw[List.length_cons]at w1 w2;have hr0:=hr1 r List.mem_cons_self;refine⟨c,s1,snd,r.n,r.b,r.t,rfl,o,o1,hr0.1,hr0.2,by (clear hl hm hk l1 ldue f2 f3 f4 f5 lr w2;lia),?_⟩;simp only[trD];walk_at "ds";rw[List.length_map];have tl:=kw c s1 snd r.n r.b r.t;refine⟨by (clear hl hm hk l1 ldue f2 f3 f4 f5 lr tl;lia),k _ ⟨rs,(y3 c s1 snd r.n r.b r.t).1,es ++ [(y3 c s1 snd r.n r.b r.t).2],_,_,_,_,rfl,(by rw[List.map_append];rfl),qm o o1 hr0.1 hr0.2,λx hx=>hr1 x (List.mem_cons_of_mem _ hx),by (clear hl hm hk l1 ldue f2 f3 f4 f5 lr w2;lia),by simp;(clear hl hm hk l1 ldue f2 f3 f4 f5 lr w1 tl;lia),ed⟩⟩
   ·rintro σ ⟨rs,s1,es,u10,u11,u12,u13,e,rfl,o1,hr1,w1,w2,ed⟩
    cases rs with
    |cons r rs=>cases e
    |nil=>
     rw[<-ed]at q' f1 f2 f3 f4 f5;simp only[yk]at q' f1 f2 f3 f4 f5;clear ed e hr1;walk_at "ds";refine⟨by (clear hl l1 ldue lr f5 f4 f3 f2 w1 w2;lia),?_⟩;rw[show(st.k+(m:Int)-st.k).toNat=m by (clear hl l1 ldue lr f5 f4 f3 f2 w1 w2;lia)];refine xa (λds σ=>∃(j:Nat) (n:Int) (s2:Sn) (es2:List Ev) (u10 u11 u12 u13:Option W),ds=y0 n j/\σ = [some (.val c.D),some (.val st.D),some (.val (.bool snd)),some (.val (.int m)),some (.val (.int st.b)),some (.val (.tuple (st.w.map En.D))),some (.val (.int st.c)),some (.val st.g.D),some (.val (.int st.k)),some (.val (.list ((yo st).map λa=>tD (Tr.l a)))),some (.val s2.D),some (.own (.lst (es2.map Ev.D))),u10,u11,u12,u13]/\s2.Ok c/\s2.b=st.b/\s2.w.length+j<=3000/\es2.length+j<=3000/\xq c snd j n s2 es2=xq c snd m st.k s1 es) ?_ ?_ ⟨m,st.k,s1,es,_,_,_,_,rfl,rfl,o1,f2,by (clear hl hk l1 ldue lr f5 f4 f3 f2;lia),by (clear hl hk l1 ldue lr f5 f4 f3 f2;lia),rfl⟩
     ·rintro d ds σ N ⟨j,n,s2,es2,u10,u11,u12,u13,e,rfl,o2,eb,w3,w4,ed⟩ k
      cases j with
      |zero=>cases e
      |succ j=>
       rw[xk]at e
       cases e;walk_at "ds";refine⟨c,s2,rfl,o,?_⟩;have n1:=o.p.n1;refine⟨c,yz c s2,snd,n,st.b,0,rfl,o,za5 o o2,by decide,by (clear hl hm hk l1 ldue lr f5 f4 f3 f2 w1 w2 eb w3 w4;omega),by show s2.w.length<=_;(clear hl hm hk l1 ldue lr f5 f4 f3 f2 w1 w2 eb w4 n1;lia),?_⟩;simp only[trD];walk_at "ds";rw[List.length_map];have tl:=kw c (yz c s2) snd n st.b 0;have a3:(yz c s2).w=s2.w:=rfl;rw[a3]at tl;have tb:=ql c (yz c s2) snd n st.b 0;simp only[xq]at ed;rw[eb]at ed;refine⟨by (clear hl hm hk l1 ldue lr f5 f4 f3 f2 w1 w2 eb n1 tl tb;lia),k _ ⟨j,n+1,(y3 c (yz c s2) snd n st.b 0).1,es2 ++ [(y3 c (yz c s2) snd n st.b 0).2],_,_,_,_,rfl,(by rw[List.map_append];rfl),qm o (za5 o o2) (by decide) (by (clear hl hm hk l1 ldue lr f5 f4 f3 f2 w1 w2 eb w3 w4 tl tb;omega)),tb.1.trans eb,by (clear hl hm hk l1 ldue lr f5 f4 f3 f2 w1 w2 eb w4 n1 tb;lia),by simp;(clear hl hm hk l1 ldue lr f5 f4 f3 f2 w1 w2 eb w3 n1 tl tb;lia),ed⟩⟩
     ·rintro σ ⟨j,n,s2,es2,u10,u11,u12,u13,e,rfl,o2,eb,w3,w4,ed⟩
      cases j with
      |succ j=>rw[xk]at e;cases e
      |zero=>
       rw[<-ed]at q';simp only[xq]at q';simp only[Sn.D];walk_at "ds";refine⟨_,ym _ _ _,?_⟩;refine⟨En,En.D,En.l,s2.w,zoc,rfl,λzs hz hw=>?_⟩;have ez:=ze8 En.of_l hz hw;clear hz hw;subst ez
       ·walk_at "ds";rw[zba _ (by decide),show(2:Int).toNat=2 from rfl];simp only[List.drop_succ_cons,List.drop_zero];refine⟨by show(2+3:Nat)<=_;decide,q'⟩
end
section
variable {P:Program}{w:World}{K:PySem.W.Frag}{mg:Str->Option Value}{base:Heap}{f:Addr}{fd:FuncData}
theorem dseq_by{t R:DTS}{Dn:vr}{σ:DSt}(P:DSt->Prop)(h:∀N:DSt->Prop,(∀σ',P σ'->N σ')->t { Dn with nx:=N } σ)(k:∀σ',P σ'->R Dn σ'):zmg t R Dn σ:=h _ k
structure Pa(c:Cl)(st:Sn):Prop where
 ok:st.Ok c
 lo:∀e∈st.w,st.b<=e.d
 so:(st.w.map En.l).Pairwise λa b=>¬ b<a
 k0:0<=st.k
theorem zqg{α:Type}{l:α->List Int}{of:List Int->α}(h:∀a,of (l a)=a){xs:List α}(hs:(xs.map l).Pairwise λa b=>¬ b<a):xu l of xs=xs:=by
 unfold xu;rw[<-zca (List.Perm.refl _) hs,List.map_map];exact(List.map_congr_left λa _=>h a).trans (List.map_id _)
def ztq(st:Sn):List Tr:=(st.w.filter λe=>decide (e.d=st.b)).map λe=>⟨e.n,e.b,e.t⟩
theorem ze9{c:Cl}{st:Sn}(P:Pa c st):yo st=ztq st:=by
 have e1:(st.w.filter λe=>decide (e.d<=st.b))=st.w.filter λe=>decide (e.d=st.b):=List.filter_congr λe he=>by
  have:=P.lo e he;exact decide_eq_decide.mpr (by lia)
 unfold yo ztq;rw[e1];refine zqg Tr.of_l ?_;rw[List.map_map];have so:(st.w.filter λe=>decide (e.d=st.b)).Pairwise λa b=>¬ En.l b<En.l a:=(List.pairwise_map.mp P.so).sublist List.filter_sublist;refine List.pairwise_map.mpr (so.imp_of_mem λ{a b} ha hb h z=>h ?_);have h1:=of_decide_eq_true (List.mem_filter.mp ha).2;have h2:=of_decide_eq_true (List.mem_filter.mp hb).2;show([b.d,b.n,b.b,b.t]:List Int) < [a.d,a.n,a.b,a.t];rw[h1,h2];exact List.Lex.cons z
theorem zqh{c:Cl}{st:Sn}(P:Pa c st):zy st = { st with w:=st.w.filter λe=>!decide (e.d=st.b) }:=by
 unfold zy;congr 1;refine List.filter_congr λe he=>?_;have:=P.lo e he
 by_cases z:e.d=st.b
 ·rw[decide_eq_true z,decide_eq_false (by lia)];rfl
 ·rw[decide_eq_false z,decide_eq_true (by lia)];rfl
theorem zj4{c:Cl}(o:c.Ok){st:Sn}(P:Pa c st)(hb:st.b<=899999)(snd:Bool)(m:Nat):Pa c (y8 c st snd m).1/\(y8 c st snd m).1.b=st.b+1/\(y8 c st snd m).1.k=st.k+m/\(y8 c st snd m).1.w.length<=st.w.length+m/\(y8 c st snd m).2.length<=st.w.length+m:=by
 have os:=P.ok;have os0:(zy st).Ok c:=⟨os.b1,os.b2,λe he=>os.w e (List.mem_filter.mp he).1,os.c1,os.c2,os.g⟩
 have dm:∀r∈yo st,∃e∈st.w,r=⟨e.n,e.b,e.t⟩:=λr hr=>by
  rw[ze9 P]at hr;obtain⟨e,he,rfl⟩:=List.mem_map.mp hr;exact⟨e,(List.mem_filter.mp he).1,rfl⟩
 have hdue:∀r∈yo st,r.Ok c:=λr hr=>by
  obtain⟨e,he,rfl⟩:=dm r hr;have:=os.w e he;exact⟨by have:=this.t1;simp only[];lia,this.t2⟩
 obtain⟨p1,p2,p3,p4,p5⟩:=zby o (snd:=snd) (yo st) (zy st) [] hdue os0;obtain⟨q1,q2,q3,q4,q5⟩:=zj3 o (snd:=snd) m st.k (yk c snd (yo st) (zy st) []).1 (yk c snd (yo st) (zy st) []).2 p1;have hl:(yo st).length+(zy st).w.length<=st.w.length:=by
  rw[ze9 P,zqh P];unfold ztq;rw[List.length_map];simp only[];generalize st.w=w
  induction w with
  |nil=>exact Nat.le_refl _
  |cons x w ih=>
   rw[List.filter_cons,List.filter_cons]
   by_cases z:x.d=st.b
   ·rw[if_pos (decide_eq_true z),if_neg (by simp[z]),List.length_cons,List.length_cons];(clear hb p2 p3 p4 p5 q2 q3 q4 q5 z;lia)
   ·rw[if_neg (by simpa using z),if_pos (by simp[z]),List.length_cons,List.length_cons];(clear hb p2 p3 p4 p5 q2 q3 q4 q5;lia)
 have hd:∀(s:Sn) (n b t:Int) (L:Int),s.b=L->(∀e∈s.w,L+1<=e.d)->∀e∈(y3 c s snd n b t).1.w,L+1<=e.d:=λs n b t L hL h e he=>by
  unfold y3 at he
  split at he
  ·exact h e he
  ·unfold za4 at he
   split at he
   ·next d hw=>
    rcases List.mem_append.mp he with he|he
    ·exact h e he
    ·cases List.mem_singleton.mp he;unfold whL at hw
     split at hw
     ·cases hw
     ·split at hw
      ·cases hw
      ·split at hw
       ·cases hw
       ·cases hw;have:=(zgo o.p.g ((t+1).toNat-1)).1;show L+1<=s.b+gp c.p.g ((t+1).toNat-1);(clear hb p2 p3 p4 p5 q2 q3 q4 q5 hl;lia)
   ·exact h e he
 have r0:∀e∈(zy st).w,st.b+1<=e.d:=λe he=>by
  have:=of_decide_eq_true (List.mem_filter.mp he).2;(clear p2 p3 p4 p5 q2 q3 q4 q5 hl;lia)
 have r1:∀(rs:List Tr) (s:Sn) (es:List Ev),s.b=st.b->(∀e∈s.w,st.b+1<=e.d)->∀e∈(yk c snd rs s es).1.w,st.b+1<=e.d:=λrs=>by
  induction rs with
  |nil=>exact λs es _ h=>h
  |cons r rs ih=>exact λs es hs h=>ih _ _ ((ql c s snd r.n r.b r.t).1.trans hs) (hd s r.n r.b r.t st.b hs h)
 have r2:∀(j:Nat) (n:Int) (s:Sn) (es:List Ev),s.b=st.b->(∀e∈s.w,st.b+1<=e.d)->∀e∈(xq c snd j n s es).1.w,st.b+1<=e.d:=λj=>by
  induction j with
  |zero=>exact λn s es _ h=>h
  |succ j ih=>exact λn s es hs h=>ih _ _ _ ((ql c (yz c s) snd n s.b 0).1.trans hs) (hd (yz c s) n s.b 0 st.b hs h)
 have pm:=qk En.of_l (xq c snd m st.k (yk c snd (yo st) (zy st) []).1 (yk c snd (yo st) (zy st) []).2).1.w;have rb:(zy st).b=st.b:=rfl;have rk:(zy st).k=st.k:=rfl;have b1:=os.b1;have k0:=P.k0;rw[List.length_nil,Nat.zero_add]at p5;refine⟨⟨⟨by show 0<=st.b+1;(clear p3 p4 p5 q3 q4 q5 hl;lia),by show st.b+1<=900000;(clear p3 p4 p5 q3 q4 q5 hl;lia),λe he=>q1.w e (pm.mem_iff.mp he),q1.c1,q1.c2,q1.g⟩,λe he=>?_,zld En.of_l _,?_⟩,rfl,?_,?_,?_⟩
 ·exact r2 _ _ _ _ (p2.trans rb) (r1 _ _ _ rb r0) e (pm.mem_iff.mp he)
 ·show 0<=(xq c snd m st.k (yk c snd (yo st) (zy st) []).1 (yk c snd (yo st) (zy st) []).2).1.k;(clear hb p2 p4 p5 q2 q4 q5 hl rb;lia)
 ·show(xq c snd m st.k (yk c snd (yo st) (zy st) []).1 (yk c snd (yo st) (zy st) []).2).1.k=st.k+m;(clear hb p2 p4 p5 q2 q4 q5 hl rb;lia)
 ·show(xu En.l En.of _).length<=_;rw[pm.length_eq];(clear hb p2 p3 q2 q3;lia)
 ·show(xq c snd m st.k (yk c snd (yo st) (zy st) []).1 (yk c snd (yo st) (zy st) []).2).2.length<=_;(clear hb p2 p3 q2 q3 q4;lia)
end
section
variable {P:Program}{w:World}{K:PySem.W.Frag}{mg:Str->Option Value}{base:Heap}{f:Addr}{fd:FuncData}
def stO(s:Sn):O:=.mix [.v (.int s.b),.l (s.w.map En.D),.v (.int s.c),.v s.g.D]
theorem ix4{n:Int}{k:Nat}(h:n=k)(hk:k<4):ixN 4 n=some k:=by
 subst h;exact zpo hk
def zbf:DSp:=λws Q=>∃(g:Gp) (n:Int),ws = [.val g.D,.val (.int n)]/\g.Ok/\1<=n/\n<=10000/\Q (.val (.int (gp g (n.toNat-1))))
theorem zgw(B:Blt mg)(F:Fun K "_law_gap" "_law_gap" jo f fd):FnOk P w K mg base CX0 1 f fd ["_law_gaps", "_law_k"] (ye K zbf):=by
 refine F.dok sc__law_gap (λws Q h=>?_) (λcdv A outer s H ws Q E hr h=>?_)
 ·obtain⟨g,n,rfl,_⟩:=h;rfl
 obtain⟨g,n,rfl,o,h0,hn,q⟩:=h;simp only[Gp.D];refine⟨_,(zd (yc (i:=2) sc__law_gap.nd rfl (Or.inl rfl) (yx (j4 rfl) rfl B.min boot_min (zt (DE.dv (zm (zc 0) zb (λ_ _=>rfl))) (zt (DE.dv (zm (zc 0) zb (λ_ _=>rfl))) yi)))) (zd (wn PassesOwn.never rfl (kh rfl B.range (za (zp zfr (zc 1) (DE.dv zb)) zi)) (zf (i:=3) sc__law_gap.nd rfl (Or.inl rfl)) (zh (yc (i:=2) sc__law_gap.nd rfl (Or.inl rfl) (yx (j4 rfl) rfl B.min boot_min (zt (DE.dv (zm (zc 0) zb (λ_ _=>rfl))) (zt (DE.dv (zp z6 (DE.dv (zp jz (DE.dv (zm (zc 0) zb (λ_ _=>rfl))) (zc 2))) (DE.dv (zm (zc 0) zb (λ_ _=>rfl))))) yi)))))) (zh (zu (zg 2))))),?_⟩;walk_at "ds";refine⟨_,zw _ _,_,xh _ _ _ _ _,?_⟩;walk_at "ds";refine⟨by lia,?_⟩;have hlen:(y0 0 (n-1).toNat).length=n.toNat-1:=by rw[zb5];lia
 generalize y0 0 (n-1).toNat=ts at hlen;refine xa (λds σ=>∃(j:Nat) (u3:Option W),j+ds.length=n.toNat-1/\σ = [some (.val (.tuple [.int g.f,.int g.t,.int g.m,.int g.k])),some (.val (.int n)),some (.val (.int (gp g j))),u3]) ?_ ?_ ⟨0,_,by lia,rfl⟩
 ·rintro d ds σ N ⟨j,u3,hj,rfl⟩ k;rw[List.length_cons]at hj;have bd:=zgo o j;have:=o.t1;have:=o.t2;walk_at "ds";refine⟨_,xh _ _ _ _ _,_,ym _ _ _,we (by (clear h0 hn hlen hj;omega)) (by (clear h0 hn hlen hj bd;lia)) (by (clear hlen hj;omega)) (by (clear hlen hj;lia)),_,xw _ _ _ _,?_⟩;walk_at "ds";have e1:min g.k (g.t * gp g j+g.m)=gp g (j+1):=by rw[Int.min_comm];rfl
  rw[e1];exact k _ ⟨j+1,_,by (clear h0 hn hlen e1;lia),rfl⟩
 ·rintro σ ⟨j,u3,hj,rfl⟩;rw[List.length_nil,Nat.add_zero]at hj;rw[hj];exact q
def zai:DSp:=λws Q=>∃(g:Gt) (s:Sg) (b:Int) (a:Bool),ws = [.val g.D,.val s.D,.val (.int b),.val (.bool a)]/\g.Ok/\s.Ok g/\s.shut=false/\Q (.val (heL g s b a).D)
theorem zfa(B:Blt mg)(F:Fun K "_law_hear" "_law_hear" qh f fd):FnOk P w K mg base CX0 1 f fd ["_law_gate", "_law_now", "_law_beat", "_law_sound"] (ye K zai):=by
 refine F.dok sc__law_hear (λws Q h=>?_) (λcdv A outer s H ws Q E hr h=>?_)
 ·obtain⟨g,s,b,a,rfl,_⟩:=h;rfl
 obtain⟨g,s,b,a,rfl,o,os,hs,q⟩:=h;have:=o.m2;have:=o.t1;have:=o.t2;have:=o.f1
 cases s with
 |sh u w=>cases hs
 |op k=>
  simp only[Sg.Ok]at os;simp only[Sg.D,Gt.D];refine⟨_,(zd (yp (yb (k5 hr) (DE.dv (zm (zc 1) zb (λ_ _=>rfl))) (DE.dv yn) (z0 _)) (zd (yc (i:=4) sc__law_hear.nd rfl (Or.inl rfl) (xy (x5 (zc 3)) zb (zp z6 (DE.dv (zm (zc 1) zb (λ_ _=>rfl))) (DE.dv zb)))) (zh (zu (xy (yb zc2 (zc 4) (DE.dv (zm (zc 0) zb (λ_ _=>rfl))) (z0 _)) (zo (za yn (za (zg 4) zi) yg)) (zo (za yn (za (zp z6 (zc 2) (DE.dv (zm (zc 0) zb (λ_ _=>rfl)))) (za (zm (zc 0) zb (λ_ _=>rfl)) zi)) yg)))))) ya) (zd (yp (x5 (zc 3)) (zh (zu (xy (yb zc2 (DE.dv (zp z6 (DE.dv (zm (zc 1) zb (λ_ _=>rfl))) (DE.dv zb))) (DE.dv (zm (zc 0) zb (λ_ _=>rfl))) (z0 _)) (zo (za yn (za (zp z6 (DE.dv (zm (zc 1) zb (λ_ _=>rfl))) (DE.dv zb)) (za (zm (zc 1) zb (λ_ _=>rfl)) zi)) yg)) (zo (za yn (za zb zi yg) yg))))) ya) (zd (yc (i:=5) sc__law_hear.nd rfl (Or.inl rfl) (yx (j4 rfl) rfl B.min boot_min (zt (DE.dv (zm (zc 0) zb (λ_ _=>rfl))) (zt (DE.dv (zp jz (DE.dv (zm (zc 0) zb (λ_ _=>rfl))) (DE.dv (zm (zc 1) zb (λ_ _=>rfl))))) yi)))) (zh (zu (zo (za yn (za (zp z6 (zc 2) (zc 5)) (za (zg 5) zi)) yg))))))),?_⟩;walk_at "ds";refine⟨_,zw _ _,?_⟩;walk_at "ds";simp only[heL]at q
  cases a with
  |true=>
   walk_at "ds";refine⟨_,zw _ _,?_⟩;walk_at "ds";rw[if_pos (by lia)];exact q
  |false=>
   rw[if_neg (by decide)]at q;walk_at "ds";refine⟨_,ym _ _ _,?_⟩;walk_at "ds";refine⟨_,zw _ _,?_⟩;walk_at "ds"
   by_cases c:k+1=g.f
   ·rw[if_neg (by lia)];rw[if_pos c]at q;refine⟨_,ym _ _ _,?_⟩;walk_at "ds";exact⟨_,ym _ _ _,q⟩
   ·rw[if_pos (by lia)];rw[if_neg c]at q;exact q
 |tr k w=>
  simp only[Sg.Ok]at os;simp only[Sg.D,Gt.D];refine⟨_,(zd (yp (yb (k5 hr) (DE.dv (zm (zc 1) zb (λ_ _=>rfl))) (DE.dv yn) (z0 _)) (zd (yc (i:=4) sc__law_hear.nd rfl (Or.inl rfl) (xy (x5 (zc 3)) zb (zp z6 (DE.dv (zm (zc 1) zb (λ_ _=>rfl))) (DE.dv zb)))) (zh (zu (xy (yb zc2 (zc 4) (DE.dv (zm (zc 0) zb (λ_ _=>rfl))) (z0 _)) (zo (za yn (za (zg 4) zi) yg)) (zo (za yn (za (zp z6 (zc 2) (DE.dv (zm (zc 0) zb (λ_ _=>rfl)))) (za (zm (zc 0) zb (λ_ _=>rfl)) zi)) yg)))))) ya) (zd (yp (x5 (zc 3)) (zh (zu (xy (yb zc2 (DE.dv (zp z6 (DE.dv (zm (zc 1) zb (λ_ _=>rfl))) (DE.dv zb))) (DE.dv (zm (zc 0) zb (λ_ _=>rfl))) (z0 _)) (zo (za yn (za (zp z6 (DE.dv (zm (zc 1) zb (λ_ _=>rfl))) (DE.dv zb)) (za (zm (zc 1) zb (λ_ _=>rfl)) zi)) yg)) (zo (za yn (za zb zi yg) yg))))) ya) (zd (yc (i:=5) sc__law_hear.nd rfl (Or.inl rfl) (yx (j4 rfl) rfl B.min boot_min (zt (DE.dv (zm (zc 0) zb (λ_ _=>rfl))) (zt (DE.dv (zp jz (DE.dv (zm (zc 0) zb (λ_ _=>rfl))) (DE.dv (zm (zc 1) zb (λ_ _=>rfl))))) yi)))) (zh (zu (zo (za yn (za (zp z6 (zc 2) (zc 5)) (za (zg 5) zi)) yg))))))),?_⟩;walk_at "ds";refine⟨_,zw _ _,?_⟩;walk_at "ds";simp only[heL]at q;rw[if_neg zq6]
  cases a with
  |true=>
   rw[if_pos rfl]at q;walk_at "ds";refine⟨_,ym _ _ _,_,zfy _ _ _ _ _ _,?_⟩;walk_at "ds"
   by_cases c:k+1=g.n
   ·rw[if_neg (by lia)];rw[if_pos c]at q;exact q
   ·rw[if_pos (by lia)];rw[if_neg c]at q;refine⟨_,ym _ _ _,?_⟩;walk_at "ds";exact⟨_,xw _ _ _ _,q⟩
  |false=>
   rw[if_neg (by decide)]at q;walk_at "ds";refine⟨_,xh _ _ _ _ _,_,xw _ _ _ _,_,xw _ _ _ _,?_⟩;walk_at "ds";rw[Int.min_comm];exact⟨we (by lia) (by lia) (by omega) (by lia),q⟩
def zbg:zat:=λwp o wq Q=>∃(c:Cl) (s:Sn) (snd:Bool) (n bg t:Int),wp = [.val c.D]/\o=stO s/\wq = [.val (.bool snd),.val (.tuple [.int n,.int bg,.int t])]/\c.Ok/\s.Ok c/\0<=t/\t<c.p.n/\s.w.length<=10000/\Q (y3 c s snd n bg t).2.D (stO (y3 c s snd n bg t).1)
theorem zwi{g:Gt}{s:Sg}{b:Int}{snd:Bool}(h:(xg s b).1=true):xf g s b snd=(some snd,heL g (xg s b).2 b snd):=by
 unfold xf;rw[if_pos h]
theorem zwj{g:Gt}{s:Sg}{b:Int}{snd:Bool}(h:(xg s b).1=false):xf g s b snd=(none,(xg s b).2):=by
 unfold xf;rw[if_neg (by rw[h];decide)]
theorem zgx(B:Blt mg)(F:Fun K "_law_try" "_law_try" jq f fd)(C__law_gap:Cal P w K mg base 1 "_law_gap" ["_law_gaps", "_law_k"] (ye K zbf))(C__law_hear:Cal P w K mg base 1 "_law_hear" ["_law_gate", "_law_now", "_law_beat", "_law_sound"] (ye K zai)):FnOk P w K mg base CX0 2 f fd ["_law_caller_here", "_law_state", "_law_sound", "_law_one"] (zjg K zbg):=by
 refine F.dokG sc__law_try (λwp o wq Q h=>?_) (λcdv A outer s H a wp o wq Q E hr h=>?_)
 ·obtain⟨c,s,snd,n,bg,t,rfl,rfl,rfl,_⟩:=h;rfl
 obtain⟨c,st,snd,n,bg,t,rfl,rfl,rfl,o,os,t1,t2,hl,q⟩:=h;have lo:=ze7 (b:=st.b) o.g os.g;have n2:=o.p.n2;simp only[Cl.D];refine⟨_,(xl (jj (yu (zg 0) (yq (n:=3) rfl (ze (zf (i:=4) sc__law_try.nd rfl (Or.inl rfl)) (ze (zf (i:=5) sc__law_try.nd rfl (Or.inl rfl)) (ze (zf (i:=6) sc__law_try.nd rfl (Or.inl rfl)) yf)))))) (xl (jj (yu (zg 3) (yq (n:=3) rfl (ze (zf (i:=7) sc__law_try.nd rfl (Or.inl rfl)) (ze (zf (i:=8) sc__law_try.nd rfl (Or.inl rfl)) (ze (zf (i:=9) sc__law_try.nd rfl (Or.inl rfl)) yf)))))) (xl (jj (yu (zo (za yn (za zhh zi yg) yg)) (yq (n:=2) rfl (ze (zf (i:=10) sc__law_try.nd rfl (Or.inl rfl)) (ze (zf (i:=11) sc__law_try.nd rfl (Or.inl rfl)) yf))))) (xl (jj (yp (DWt.dt (zse (yb (k5 hr) (DE.dv (zm (wo 1 zb (λ_ _=>rfl)) zb (λ_ _=>rfl))) (DE.dv yn) (z0 _)) (zpb (yb zpd (wo 1 zb (λ_ _=>rfl)) (DE.dv (zm (wo 1 zb (λ_ _=>rfl)) zb (λ_ _=>rfl))) (z0 _))))) (zh (zbu 1 (zo (za yn (za zb (za (zm (wo 1 zb (λ_ _=>rfl)) zb (λ_ _=>rfl)) zi) yg) yg)) zb)) ya)) (xl (jj (yp (yb (zhj hr) (DE.dv (zm (wo 1 zb (λ_ _=>rfl)) zb (λ_ _=>rfl))) (DE.dv yn) (z0 _)) (zd (yc (i:=10) sc__law_try.nd rfl (Or.inl rfl) (xy (x5 (zc 2)) yn yn)) (zh (zbu 1 (zn C__law_hear hr rfl (zj 6 (z7 (zet 1 zb (λ_ _=>rfl)) (z7 (zet 1 zb (λ_ _=>rfl)) (zj 2 zr))))) zb))) ya)) (xl (zs8 (yb (k5 hr) (zc 10) (DE.dv yn) (z0 _)) (zf7 (zjh (zo (za (zg 7) (za (zg 10) (za zhh zi yg)))))) zm7) (xl (jj (yc (i:=12) sc__law_try.nd rfl (Or.inl rfl) (zp z6 (wo 1 zb (λ_ _=>rfl)) (DE.dv (zn C__law_gap hr rfl (z7 (zm (zc 4) zb (λ_ _=>rfl)) (z7 (zp z6 (zc 9) (DE.dv zb)) zr))))))) (xl (jj (yp (yb zpd (DE.dv (zp z6 (zc 9) (DE.dv zb))) (DE.dv (zm (zc 4) zb (λ_ _=>rfl))) (z0 _)) (zh (yc (i:=11) sc__law_try.nd rfl (Or.inl rfl) yn)) (zh (yp (yb zpc (zc 12) (DE.dv (zp z6 (zc 8) (DE.dv (zm (zc 4) zb (λ_ _=>rfl))))) (z0 _)) (zh (yc (i:=11) sc__law_try.nd rfl (Or.inl rfl) yn)) (zh (yp (yb zc2 (wo 1 zb (λ_ _=>rfl)) (DE.dv (zm (zc 5) zb (λ_ _=>rfl))) (z0 _)) (zh (yc (i:=11) sc__law_try.nd rfl (Or.inl rfl) yn)) (zd (yc (i:=11) sc__law_try.nd rfl (Or.inl rfl) (zg 12)) (zd (zbu 1 (zp zfr (wo 1 zb (λ_ _=>rfl)) (DE.dv (zm (zc 5) zb (λ_ _=>rfl)))) zb) (zh (zpv 1 zb (zo (za (zg 12) (za (zg 7) (za (zg 8) (za (zp z6 (zc 9) (DE.dv zb)) zi))))) (λ_ _=>rfl))))))))))) (zf7 (zjh (zo (za (zg 7) (za (zg 10) (za (zg 11) zi)))))))))))))),?_⟩
 refine zae (λσ=>σ = [some (.val c.D),some (.own (.anc a (stO st))),some (.val (.bool snd)),some (.val (.tuple [.int n,.int bg,.int t])),some (.val c.p.D),some (.val c.u.D),some (.val c.g.D),none,none,none,none,none,none]) (λN hN=>?_) ?_
 ·walk_at "ds";exact hN _ rfl
 rintro σ rfl;refine zae (λσ=>σ = [some (.val c.D),some (.own (.anc a (stO st))),some (.val (.bool snd)),some (.val (.tuple [.int n,.int bg,.int t])),some (.val c.p.D),some (.val c.u.D),some (.val c.g.D),some (.val (.int n)),some (.val (.int bg)),some (.val (.int t)),none,none,none]) (λN hN=>?_) ?_
 ·walk_at "ds";exact hN _ rfl
 rintro σ rfl;refine zae (λσ=>σ = [some (.val c.D),some (.own (.anc a (stO st))),some (.val (.bool snd)),some (.val (.tuple [.int n,.int bg,.int t])),some (.val c.p.D),some (.val c.u.D),some (.val c.g.D),some (.val (.int n)),some (.val (.int bg)),some (.val (.int t)),some (.val (.str "held")),some (.val .none),none]) (λN hN=>?_) ?_
 ·walk_at "ds";exact hN _ rfl
 rintro σ rfl;refine zae (λσ=>σ = [some (.val c.D),some (.own (.anc a (stO { st with g:=(xg st.g st.b).2 }))),some (.val (.bool snd)),some (.val (.tuple [.int n,.int bg,.int t])),some (.val c.p.D),some (.val c.u.D),some (.val c.g.D),some (.val (.int n)),some (.val (.int bg)),some (.val (.int t)),some (.val (.str "held")),some (.val .none),none]) (λN hN=>?_) ?_
 ·simp only[stO]at hN ⊢
  cases eg:st.g with
  |op k=>
   rw[eg]at hN;simp only[Sg.D,xg]at hN ⊢;walk_at "ds";refine⟨3,_,ix4 rfl (by decide),rfl,_,zw _ _,?_⟩;walk_at "ds";rw[if_neg zgp];exact hN _ rfl
  |tr k w=>
   rw[eg]at hN;simp only[Sg.D,xg]at hN ⊢;walk_at "ds";refine⟨3,_,ix4 rfl (by decide),rfl,_,zw _ _,?_⟩;walk_at "ds";rw[if_neg zgq];exact hN _ rfl
  |sh u w=>
   rw[eg]at hN;simp only[Sg.D,xg]at hN ⊢;walk_at "ds";refine⟨3,_,ix4 rfl (by decide),rfl,_,zw _ _,?_⟩;walk_at "ds";refine⟨0,_,ix4 rfl (by decide),rfl,3,_,ix4 rfl (by decide),rfl,_,ym _ _ _,?_⟩;walk_at "ds"
   by_cases cc:st.b<u
   ·rw[if_neg (by (clear t1 t2 hl n2;lia))];rw[if_pos cc]at hN;exact hN _ rfl
   ·rw[if_pos (by (clear t1 t2 hl n2;lia))];rw[if_neg cc]at hN;refine⟨3,_,ix4 rfl (by decide),rfl,_,xw _ _ _ _,?_⟩;walk_at "ds";exact⟨3,_,ix4 rfl (by decide),rfl,hN _ rfl⟩
 rintro σ rfl;have hsh:∀s:Sg,∃(x:Str) (rest:List D),s.D=.tuple (.str x::rest)/\(x=Str.ofString "shut" ↔ s.shut=true):=λs=>by
  cases s with
  |op k=>exact⟨_,_,rfl,λz=>absurd z zgp,λz=>nomatch z⟩
  |tr k w=>exact⟨_,_,rfl,λz=>absurd z zgq,λz=>nomatch z⟩
  |sh u w=>exact⟨_,_,rfl,λ_=>rfl,λ_=>rfl⟩
 have hlet:(xg st.g st.b).2.shut = !(xg st.g st.b).1:=by
  cases eg:st.g with
  |op k=>rfl
  |tr k w=>rfl
  |sh u w=>
   simp only[xg]
   split <;> rfl
 refine zae (λσ=>σ = [some (.val c.D),some (.own (.anc a (stO { st with g:=(xf c.g st.g st.b snd).2 }))),some (.val (.bool snd)),some (.val (.tuple [.int n,.int bg,.int t])),some (.val c.p.D),some (.val c.u.D),some (.val c.g.D),some (.val (.int n)),some (.val (.int bg)),some (.val (.int t)),some (.val (wdE (xf c.g st.g st.b snd).1)),some (.val .none),none]) (λN hN=>?_) ?_
 ·simp only[stO]at hN ⊢;obtain⟨x,rest,ex,ix⟩:=hsh (xg st.g st.b).2
  cases cl:(xg st.g st.b).1 with
  |false=>
   rw[zwj cl]at hN;rw[hlet,cl]at ix;have hx:=ix.mpr rfl;subst hx;simp only[ex]at hN ⊢;walk_at "ds";refine⟨3,_,ix4 rfl (by decide),rfl,_,zw _ _,?_⟩;walk_at "ds";exact hN _ rfl
  |true=>
   rw[zwi cl]at hN;rw[hlet,cl]at ix;have hx:¬ (x=Str.ofString "shut"):=λz=>nomatch ix.mp z;have go:∀d:D,(xg st.g st.b).2.D=d->d=.tuple (.str x::rest)->_:=λd e1 e2=>e1.trans e2;walk_at "ds";refine⟨3,_,ix4 rfl (by decide),rfl,?_⟩;rw[ex];refine⟨_,zw _ _,?_⟩;walk_at "ds";rw[if_pos hx,<-ex]
   cases snd with
   |true=>
    walk_at "ds";refine⟨3,_,ix4 rfl (by decide),rfl,0,_,ix4 rfl (by decide),rfl,c.g,_,st.b,true,rfl,o.g,lo.1,lo.2 cl,?_⟩;exact⟨3,_,ix4 rfl (by decide),rfl,hN _ rfl⟩
   |false=>
    walk_at "ds";refine⟨3,_,ix4 rfl (by decide),rfl,0,_,ix4 rfl (by decide),rfl,c.g,_,st.b,false,rfl,o.g,lo.1,lo.2 cl,?_⟩;exact⟨3,_,ix4 rfl (by decide),rfl,hN _ rfl⟩
 rintro σ rfl;have ends:∀(w':Option Bool),w'≠some true->(xf c.g st.g st.b snd).1=w'->Q (.tuple [.int n,wdE w',(whL c st.c st.b bg (t+1)).D]) (stO (za4 c st (xf c.g st.g st.b snd).2 n bg t (whL c st.c st.b bg (t+1)))):=λw' hw hk=>by
  unfold y3 at q;rw[hk,if_neg hw]at q;exact q
 have srv:(xf c.g st.g st.b snd).1=some true->Q (.tuple [.int n,.str "served",.none]) (stO { st with g:=(xf c.g st.g st.b snd).2 }):=λhk=>by
  unfold y3 at q;rw[hk,if_pos rfl]at q;exact q
 clear q;generalize (xf c.g st.g st.b snd).2=g' at ends srv ⊢;generalize (xf c.g st.g st.b snd).1=w' at ends srv ⊢;have fin:∀(x:Str),wdE w'=.str x->w'≠some true->¬ (x=Str.ofString "served")->_:=λx ex hw hx=>(⟨x,ex,hw,hx⟩:∃x,wdE w'=.str x/\w'≠some true/\¬ (x=Str.ofString "served"))
 by_cases hw:w'=some true
 ·subst hw;have q:=srv rfl;simp only[wdE];walk_at "ds";exact⟨_,rfl,q⟩
 ·have hx:∃x,wdE w'=.str x/\¬ (x=Str.ofString "served"):=by
   cases w' with
   |none=>exact⟨_,rfl,zn7⟩
   |some b=>
    cases b with
    |true=>exact absurd rfl hw
    |false=>exact⟨_,rfl,zn8⟩
  obtain⟨x,ex,hx⟩:=hx;have q:=ends w' hw rfl;clear ends srv fin;rw[ex]at q ⊢;unfold whL at q;simp only[stO,Pl.D,Ps.D]at q ⊢;walk_at "ds";rw[if_neg hx];refine⟨0,_,ix4 rfl (by decide),rfl,?_⟩;walk_at "ds";refine⟨_,zw _ _,c.p.g,t+1,rfl,o.p.g,by omega,by omega,?_⟩;walk_at "ds";refine⟨_,ym _ _ _,?_⟩;walk_at "ds"
  by_cases c1:t+1=c.p.n
  ·rw[if_pos (by lia)];rw[if_pos c1]at q;exact⟨_,rfl,q⟩
  rw[if_neg (by lia)];rw[if_neg c1]at q;refine⟨_,xw _ _ _ _,?_⟩;walk_at "ds"
  by_cases c2:bg+c.p.t<st.b+gp c.p.g ((t+1).toNat-1)
  ·rw[if_pos c2];rw[if_pos c2]at q;exact⟨_,rfl,q⟩
  rw[if_neg c2];rw[if_neg c2]at q;refine⟨2,_,ix4 rfl (by decide),rfl,?_⟩;walk_at "ds";refine⟨_,ym _ _ _,?_⟩;walk_at "ds"
  by_cases c3:st.c<c.u.p
  ·rw[if_pos c3];rw[if_pos c3]at q;exact⟨_,rfl,q⟩
  rw[if_neg c3];rw[if_neg c3]at q;refine⟨2,_,ix4 rfl (by decide),rfl,?_⟩;walk_at "ds";refine⟨_,ym _ _ _,?_⟩;walk_at "ds";refine⟨2,_,ix4 rfl (by decide),rfl,1,_,ix4 rfl (by decide),rfl,by rw[List.length_map];(clear t1 t2 n2 c2 c3;lia),_,rfl,?_⟩;simp only[za4]at q;rw[List.map_append]at q;exact q
end
section
variable {P:Program}{w:World}{K:PySem.W.Frag}{mg:Str->Option Value}{base:Heap}{f:Addr}{fd:FuncData}
def vm:DSp:=λws Q=>∃(c:Cl) (st:Sn) (snd:Bool) (m:Nat),ws = [.val c.D,.val st.D,.val (.bool snd),.val (.int m)]/\c.Ok/\Pa c st/\st.w.length<=1000/\m<=1000/\Q (.val (stD (y8 c st snd m)))
def zlf(b:Int)(ws:List En):List Tr:=(ws.filter λe=>decide (e.d=b)).map λe=>⟨e.n,e.b,e.t⟩
theorem zlg(b:Int)(e:En)(ws:List En):zlf b (e::ws)=if e.d=b then ⟨e.n,e.b,e.t⟩::zlf b ws else zlf b ws:=by
 unfold zlf;rw[List.filter_cons]
 by_cases z:e.d=b
 ·rw[if_pos (decide_eq_true z),if_pos z,List.map_cons]
 ·rw[if_neg (by simpa using z),if_neg z]
theorem ztr(c:Cl)(s:Sn):yz c s = { s with c:=min c.u.c (s.c+c.u.a),k:=s.k+1 }:=by
 unfold yz;rw[Int.one_mul,Int.min_comm]
theorem zts(a b c d:D):wm [a,b,c,d] (some 1) none = [b,c,d]:=by
 rw[zba _ (by decide)];rfl
theorem zfb(B:Blt mg)(F:Fun K "_law_step" "_law_step" qi f fd)(C__law_try:Cal P w K mg base 2 "_law_try" ["_law_caller_here", "_law_state", "_law_sound", "_law_one"] (zjg K zbg)):FnOk P w K mg base CX0 3 f fd ["_law_caller_here", "_law_standing", "_law_sound", "_law_many"] (ye K vm):=by
 refine F.dok sc__law_step (λws Q h=>?_) (λcdv A outer s H ws Q E hr h=>?_)
 ·obtain⟨c,st,snd,m,rfl,_⟩:=h;rfl
 obtain⟨c,st,snd,m,rfl,o,pa,hl,hm,q⟩:=h;have os:=pa.ok;have os0:(zy st).Ok c:=⟨os.b1,os.b2,λe he=>os.w e (List.mem_filter.mp he).1,os.c1,os.c2,os.g⟩
 have lr:(zy st).w.length<=st.w.length:=List.length_filter_le _ _;have hdt:yo st=zlf st.b st.w:=ze9 pa;have n1:=o.p.n1;simp only[Sn.D];refine⟨_,(zd (yu (zg 1) (yq (n:=5) rfl (ze (zf (i:=4) sc__law_step.nd rfl (Or.inr rfl)) (ze (zf (i:=5) sc__law_step.nd rfl (Or.inl rfl)) (ze (zf (i:=6) sc__law_step.nd rfl (Or.inl rfl)) (ze (zf (i:=7) sc__law_step.nd rfl (Or.inl rfl)) (ze (zf (i:=8) sc__law_step.nd rfl (Or.inl rfl)) yf))))))) (zd (znb (i:=9) sc__law_step.nd rfl (Or.inr rfl) (zhr (zg 4) (zs0 (zb4 rfl (N':=["_law_one", "_law_beat"]) (capt:=["_law_beat"]) (k:=1) (js:=[4]) ⟨rfl,by decide,rfl,by decide,(.cons rfl .nil),rfl,(.cons rfl (Or.inl rfl) rfl (Or.inl rfl) .nil),rfl,by decide⟩ (wk (zc 5)) (λ_ _ _ _=>(zf (i:=0) (show List.Nodup (["_law_one", "_law_beat"]:List Str) by decide +kernel) rfl (Or.inl rfl) (Or.inr rfl))) (λ_ _ _ _=>(ki (yb zpc (DE.dv (zm (zc 0) zb (λ_ _=>rfl))) (zc 1) (z0 _)))) (λ_ _ _ _=>(zg 0))) (zhr (zg 6) (zhr (zg 7) zsz))))) (zd (zk0 9 1 (j:=10) sc__law_step.nd rfl (Or.inl rfl) rfl (N':=["_law_one", "_law_caller_here", "_law_state", "_law_sound", "_law_beat"]) (capt:=["_law_caller_here", "_law_state", "_law_sound", "_law_beat"]) (k:=1) (js:=[0,9,2,4]) ⟨rfl,by decide,rfl,by decide,(.cons rfl (.cons rfl (.cons rfl (.cons rfl .nil)))),rfl,(.cons rfl (Or.inl rfl) rfl (Or.inl rfl) (.cons rfl (Or.inl rfl) rfl (Or.inl rfl) (.cons rfl (Or.inl rfl) rfl (Or.inl rfl) (.cons rfl (Or.inl rfl) rfl (Or.inl rfl) .nil)))),rfl,by decide⟩ (v6 (zg 5)) (λ_ _ _ _=>(zf (i:=0) (show List.Nodup (["_law_one", "_law_caller_here", "_law_state", "_law_sound", "_law_beat"]:List Str) by decide +kernel) rfl (Or.inl rfl) (Or.inr rfl))) (λ_ _ _ _=>(ki (yb (k5 hr) (DE.dv (zm (zc 0) zb (λ_ _=>rfl))) (zc 4) (z0 _)))) (λ_ _ _ _=>(zf8 C__law_try hr rfl (zjj (zg 1) (zji 2 (z7 (zg 3) (z7 (zfs (zc 0) (zbo zb) zi5) zr)))) (by decide) (by decide) rfl rfl))) (zd (wn PassesOwn.never rfl (kh rfl B.range (za (zg 3) zi)) (zf (i:=11) sc__law_step.nd rfl (Or.inl rfl)) (zd (zbu 9 (yx (j4 rfl) rfl B.min boot_min (zt (DE.dv (zm (DE.dv (zm (zc 0) zb (λ_ _=>rfl))) zb (λ_ _=>rfl))) (zt (DE.dv (zp z6 (wo 9 zb (λ_ _=>rfl)) (DE.dv (zm (DE.dv (zm (zc 0) zb (λ_ _=>rfl))) zb (λ_ _=>rfl))))) yi))) zb) (zh (zpz 10 (zf8 C__law_try hr rfl (zjj (zg 0) (zji 9 (z7 (zg 2) (z7 (zo (za (zp z6 (zc 8) (zc 11)) (za (zg 4) (za zb zi yg)))) zr zao)))) (by decide) (by decide) rfl rfl))))) (zh (zu (zo (za (zo (za (zp z6 (zc 4) (DE.dv zb)) (za (xt kg rfl B.tupleT boot_tuple (zt (DE.dv (DF.de (j3 (zbx hr) rfl B.sorted boot_sorted (zt (wo 9 zb (λ_ _=>rfl)) yi)))) yi)) (za (zet 9 zb (λ_ _=>rfl)) (za (zet 9 zb (λ_ _=>rfl)) (za (zp z6 (zc 8) (zc 3)) zi)))))) (za (xt kg rfl B.tupleT boot_tuple (zt (zc 10) yi)) zi) zao)))))))),?_⟩
 refine dseq_by (λσ=>σ = [some (.val c.D),some (.val st.D),some (.val (.bool snd)),some (.val (.int m)),some (.val (.int st.b)),some (.val (.tuple (st.w.map En.D))),some (.val (.int st.c)),some (.val st.g.D),some (.val (.int st.k)),none,none,none]) (λN hN=>?_) ?_
 ·walk_at "ds";exact hN _ rfl
 rintro σ rfl;refine dseq_by (λσ=>σ = [some (.val c.D),some (.val st.D),some (.val (.bool snd)),some (.val (.int m)),some (.val (.int st.b)),some (.val (.tuple (st.w.map En.D))),some (.val (.int st.c)),some (.val st.g.D),some (.val (.int st.k)),some (.own (stO (zy st))),none,none]) (λN hN=>?_) ?_
 ·walk_at "ds";rw[List.length_map];refine⟨by lia,kj En.D (λe=>if st.b<e.d then some e.D else none) (λe he k hk=>?_) ?_⟩
  ·simp only[En.D,tD,En.l,List.map_cons,List.map_nil]at hk ⊢;walk_at "ds";refine⟨_,zw _ _,?_⟩;walk_at "ds"
   by_cases z:st.b<e.d
   ·rw[if_pos z]at hk ⊢;exact hk
   ·rw[if_neg z]at hk ⊢;exact hk
  ·have e2:st.w.filterMap (λe=>if st.b<e.d then some e.D else none)=(zy st).w.map En.D:=by
    show _=(st.w.filter λe=>decide (st.b<e.d)).map En.D;generalize st.w=w
    induction w with
    |nil=>rfl
    |cons x w ih=>
     rw[List.filterMap_cons,List.filter_cons]
     by_cases z:st.b<x.d
     ·rw[if_pos z,if_pos (by simp[z]),ih];rfl
     ·rw[if_neg z,if_neg (by simp[z]),ih]
   rw[e2];walk_at "ds";exact hN _ rfl
 rintro σ rfl;refine dseq_by (λσ=>∃(s1:Sn) (es:List Ev),(s1,es)=yk c snd (yo st) (zy st) []/\s1.Ok c/\s1.b=st.b/\s1.k=st.k/\s1.w.length<=2000/\es.length<=2000/\σ = [some (.val c.D),some (.val st.D),some (.val (.bool snd)),some (.val (.int m)),some (.val (.int st.b)),some (.val (.tuple (st.w.map En.D))),some (.val (.int st.c)),some (.val st.g.D),some (.val (.int st.k)),some (.own (stO s1)),some (.own (.lst (es.map Ev.D))),none]) (λN hN=>?_) ?_
 ·walk_at "ds";rw[List.length_map];refine⟨by lia,?_⟩;refine znc (λds acc oo=>∃(ws:List En) (s1:Sn) (es:List Ev),ds=ws.map En.D/\acc=es.map Ev.D/\oo=stO s1/\(∀e∈ws,e∈st.w)/\s1.Ok c/\s1.b=st.b/\s1.k=st.k/\s1.w.length+ws.length<=2000/\es.length+ws.length<=2000/\yk c snd (zlf st.b ws) s1 es=yk c snd (yo st) (zy st) []) ?_ ?_ ⟨st.w,zy st,[],rfl,rfl,rfl,λe h=>h,os0,rfl,rfl,by lia,by simp;lia,by rw[hdt]⟩
  ·rintro d ds acc oo N2 ⟨ws,s1,es,e,rfl,rfl,hw,o1,eb,ek,l1,l2,ed⟩ k
   cases ws with
   |nil=>cases e
   |cons x ws=>
    cases e;rw[List.length_cons]at l1 l2;have hx:=os.w x (hw x List.mem_cons_self);have hw':∀e∈ws,e∈st.w:=λe he=>hw e (List.mem_cons_of_mem _ he);rw[zlg]at ed;simp only[En.D,tD,En.l,List.map_cons,List.map_nil];walk_at "ds";refine⟨_,zw _ _,?_⟩;walk_at "ds"
    by_cases z:x.d=st.b
    ·rw[if_pos z];rw[if_pos z,yk]at ed;have tb:=ql c s1 snd x.n x.b x.t;have tl:=kw c s1 snd x.n x.b x.t;have t1:=hx.t1;rw[zts];refine⟨rfl,rfl,c,s1,snd,x.n,x.b,x.t,rfl,rfl,rfl,o,o1,by (clear hl hm lr n1 eb ek l1 l2 z tb tl;lia),hx.t2,by (clear hl hm lr n1 eb ek l2 z tb tl t1;lia),?_⟩;exact k _ _ ⟨ws,(y3 c s1 snd x.n x.b x.t).1,es ++ [(y3 c s1 snd x.n x.b x.t).2],rfl,by rw[List.map_append];rfl,rfl,hw',qm o o1 (by lia) hx.t2,tb.1.trans eb,tb.2.trans ek,by (clear hl hm lr n1 eb ek l2 z tb;lia),by simp;(clear hl hm lr n1 eb ek l1 z tb tl t1;lia),ed⟩
    ·rw[if_neg z];rw[if_neg z]at ed;exact k _ _ ⟨ws,s1,es,rfl,rfl,rfl,hw',o1,eb,ek,by (clear hl hm lr n1 eb ek l2;lia),by (clear hl hm lr n1 eb ek l1;lia),ed⟩
  ·rintro acc oo ⟨ws,s1,es,e,rfl,rfl,hw,o1,eb,ek,l1,l2,ed⟩
   cases ws with
   |cons x ws=>cases e
   |nil=>exact hN _ ⟨s1,es,ed,o1,eb,ek,by simpa using l1,by simpa using l2,rfl⟩
 rintro σ ⟨s1,es,ed,o1,eb,ek,l1,l2,rfl⟩;have q':Q (.val (stD (let r2:=xq c snd m st.k s1 es;({ r2.1 with b:=st.b+1,w:=xu En.l En.of r2.1.w },r2.2)))):=by
  have e1:s1=(yk c snd (yo st) (zy st) []).1:=congrArg Prod.fst ed;have e2:es=(yk c snd (yo st) (zy st) []).2:=congrArg Prod.snd ed;rw[e1,e2];exact q
 clear q ed;refine dseq_by (λσ=>∃(s2:Sn) (es2:List Ev) (u11:Option W),(s2,es2)=xq c snd m st.k s1 es/\s2.b=st.b/\s2.k=st.k+m/\s2.w.length<=4000/\es2.length<=4000/\σ = [some (.val c.D),some (.val st.D),some (.val (.bool snd)),some (.val (.int m)),some (.val (.int st.b)),some (.val (.tuple (st.w.map En.D))),some (.val (.int st.c)),some (.val st.g.D),some (.val (.int st.k)),some (.own (stO s2)),some (.own (.lst (es2.map Ev.D))),u11]) (λN hN=>?_) ?_
 ·simp only[Cl.D,Ps.D]at hN ⊢;walk_at "ds";refine⟨by (clear hl lr n1 eb ek l1 l2;lia),?_⟩;refine xa (λds σ=>∃(i j:Nat) (s2:Sn) (es2:List Ev) (u11:Option W),ds=y0 (i:Nat) j/\i+j=m/\s2.Ok c/\s2.b=st.b/\s2.k=st.k+i/\s2.w.length+j<=4000/\es2.length+j<=4000/\xq c snd j (st.k+i) s2 es2=xq c snd m st.k s1 es/\σ = [some (.val (.tuple [c.p.D,.tuple [.int c.u.a,.int c.u.p,.int c.u.c,.int c.u.f],c.g.D])),some (.val st.D),some (.val (.bool snd)),some (.val (.int m)),some (.val (.int st.b)),some (.val (.tuple (st.w.map En.D))),some (.val (.int st.c)),some (.val st.g.D),some (.val (.int st.k)),some (.own (stO s2)),some (.own (.lst (es2.map Ev.D))),u11]) ?_ ?_ ⟨0,m,s1,es,_,by rw[show((m:Int)).toNat=m by (clear hl lr n1 eb ek l1 l2;lia)];rfl,by (clear hl lr n1 eb ek l1 l2;lia),o1,eb,by rw[ek];simp,by (clear hl lr n1 eb ek l2;lia),by (clear hl lr n1 eb ek l1;lia),by rw[show st.k+((0:Nat):Int)=st.k by simp],rfl⟩
  ·rintro d ds σ N2 ⟨i,j,s2,es2,u11,e,hij,o2,eb2,ek2,l3,l4,en,rfl⟩ k
   cases j with
   |zero=>cases e
   |succ j=>
    rw[xk]at e
    cases e;rw[xq]at en;simp only[stO];walk_at "ds";refine⟨_,ym _ _ _,_,xw _ _ _ _,2,_,ix4 rfl (by decide),rfl,?_⟩;walk_at "ds";refine⟨_,ym _ _ _,_,zw _ _,?_⟩;walk_at "ds";have tb:=ql c (yz c s2) snd (st.k+i) s2.b 0;have tl:=kw c (yz c s2) snd (st.k+i) s2.b 0;have al:(yz c s2).w=s2.w:=rfl;have ab:(yz c s2).b=s2.b:=rfl;have kk:(yz c s2).k=s2.k+1:=rfl;rw[al]at tl;refine⟨2,_,ix4 rfl (by decide),rfl,?_⟩;refine⟨rfl,rfl,c,yz c s2,snd,st.k+i,st.b,0,rfl,by rw[ztr];rfl,rfl,o,za5 o o2,by (clear hl hm lr n1 eb ek l1 l2 eb2 ek2 hij l3 l4 tb tl ab kk;lia),by (clear hl hm lr eb ek l1 l2 eb2 ek2 hij l3 l4 tb tl ab kk;omega),by rw[al];(clear hl lr n1 eb ek l1 l2 eb2 ek2 l4 tb tl ab kk;lia),?_⟩;walk_at "ds";rw[<-eb2,List.length_map];refine⟨by (clear hl lr n1 eb ek l1 l2 eb2 ek2 l3 tb tl ab kk;lia),k _ ⟨i+1,j,(y3 c (yz c s2) snd (st.k+i) s2.b 0).1,es2 ++ [(y3 c (yz c s2) snd (st.k+i) s2.b 0).2],_,by rw[show((i+1:Nat):Int)=(i:Int)+1 by (clear hl lr n1 eb ek l1 l2 eb2 ek2 l3 l4 tb tl ab kk;lia)],by (clear hl lr n1 eb ek l1 l2 eb2 ek2 l3 l4 tb tl ab kk;lia),qm o (za5 o o2) (by lia) (by lia),(tb.1.trans ab).trans eb2,by rw[tb.2,kk,ek2];(clear hl hm lr n1 eb ek l1 l2 eb2 ek2 hij l3 l4 tb tl ab kk;lia),by (clear hl hm lr n1 eb ek l1 l2 eb2 ek2 hij l4 tb;lia),by simp;(clear hl hm lr n1 eb ek l1 l2 eb2 ek2 hij l3 tb tl ab kk;lia),by rw[show st.k+((i+1:Nat):Int)=st.k+i+1 by (clear hl hm lr n1 eb ek l1 l2 eb2 ek2 hij l3 l4 tb tl ab kk;lia)];exact en,by rw[List.map_append,eb2];rfl⟩⟩
  ·rintro σ ⟨i,j,s2,es2,u11,e,hij,o2,eb2,ek2,l3,l4,en,rfl⟩
   cases j with
   |succ j=>rw[xk]at e;cases e
   |zero=>exact hN _ ⟨s2,es2,u11,en,eb2,by rw[ek2];(clear hl lr n1 eb ek l1 l2 eb2 ek2 l3 l4;lia),by simpa using l3,by simpa using l4,rfl⟩
 rintro σ ⟨s2,es2,u11,en,eb2,ek2,l3,l4,rfl⟩;rw[<-en]at q';simp only[stO];walk_at "ds";refine⟨1,_,ix4 rfl (by decide),rfl,?_⟩;walk_at "ds";refine⟨En,En.D,En.l,s2.w,zoc,rfl,λzs hz hw=>?_⟩;have ez:=ze8 En.of_l hz hw;clear hz hw;subst ez
 ·walk_at "ds";refine⟨2,_,ix4 rfl (by decide),rfl,3,_,ix4 rfl (by decide),rfl,?_⟩;walk_at "ds";simp only[stD,Sn.D]at q';rw[ek2]at q';exact q'
end
section
variable {P:Program}{w:World}{K:PySem.W.Frag}{mg:Str->Option Value}{base:Heap}{f:Addr}{fd:FuncData}
def k9:DSp:=λws Q=>∃(c:Cl),ws = [.val c.D]/\Q (.val (k7 c).D)
theorem zc9(B:Blt mg)(F:Fun K "_law_first" "_law_first" vi f fd):FnOk P w K mg base CX0 1 f fd ["_law_caller_here"] (ye K k9):=by
 refine F.dok zc7 (λws Q h=>?_) (λcdv A outer s H ws Q E hr h=>?_)
 ·obtain⟨c,rfl,_⟩:=h;rfl
 obtain⟨c,rfl,q⟩:=h;simp only[Cl.D,Ps.D];refine⟨_,(zh (zu (zo (za zb (za (zo zi) (za (zm (DE.dv (zm (zc 0) zb (λ_ _=>rfl))) zb (λ_ _=>rfl)) (za (zo (za yn (za zb zi yg) yg)) (za zb zi yg) zao)) zao) yg)))),?_⟩;walk_at "ds";refine⟨_,ym _ _ _,_,xh _ _ _ _ _,?_⟩;exact q
def gEn:Sg->List Int
 |.op k=>[0,k]
 |.sh u w=>[1,u,w]
 |.tr k w=>[2,k,w]
def wEn:List En->List Int
 |[]=>[0]
 |e::es=>1::(e.l++wEn es)
def Sn.en(s:Sn):List Int:=s.b::(wEn s.w++(s.c::(gEn s.g ++ [s.k])))
theorem CmpL.ents:∀ws xs:List En,CmpL (ws.map En.D) (xs.map En.D) (wEn ws) (wEn xs)
 |[],[]=>.inl ⟨rfl,rfl⟩
 |[],x::xs=>by
  have e:∀s t:List Int,decide ([0]++s<(1::(x.l++wEn xs))++t)=true:=λs t=>decide_eq_true (by rw[List.cons_append,List.cons_append,List.cons_lt_cons_iff];exact .inl (by decide));have e0:decide (wEn [] < wEn (x::xs))=true:=by have:=e [] [];rwa [List.append_nil,List.append_nil]at this
  exact .inr ⟨λh=>(nomatch h),λs t h=>by simp[wEn]at h,by rw[e0];exact .nc _ _,λs t=>by rw[e0];exact e s t⟩
 |w::ws,[]=>by
  have e:∀s t:List Int,decide ((1::(w.l++wEn ws))++s < [0]++t)=false:=λs t=>decide_eq_false (by rw[List.cons_append,List.cons_append,List.cons_lt_cons_iff];simp);have e0:decide (wEn (w::ws)<wEn [])=false:=by have:=e [] [];rwa [List.append_nil,List.append_nil]at this
  exact .inr ⟨λh=>(nomatch h),λs t h=>by simp[wEn]at h,by rw[e0];exact .cn _ _,λs t=>by rw[e0];exact e s t⟩
 |w::ws,x::xs=>(CmpL.cons (CmpD.tup (CmpL.ints (l:=w.l) (m:=x.l) rfl)) (CmpL.ents ws xs)).pre 1
theorem kx{x y:Str}{n m:Int}{ds es:List D}{us vs:List Int}(hx:x≠y)(hn:n≠m)(h:decide (x.cps.toList<y.cps.toList)=decide (n<m)):CmpL (.str x::ds) (.str y::es) ([n]++us) ([m]++vs):=by
 have e:decide ([n] < [m])=decide (n<m):=decide_eq_decide.mpr (by rw[List.cons_lt_cons_iff];simp);refine .ne ds es us vs (λh=>hx (PyData.str.inj h)) (λs t h=>?_) (by rw[e,<-h];exact .str x y) (λs t=>?_)
 ·simp only[List.cons_append,List.nil_append,List.cons.injEq]at h;exact hn h.1
 ·rw[e];exact decide_eq_decide.mpr (by rw[List.cons_append,List.cons_append,List.cons_lt_cons_iff];simp[hn])
theorem zcq{x:Str}{n:Int}{l m:List Int}(hl:l.length=m.length):CmpL (.str x::l.map PyData.int) (.str x::m.map PyData.int) ([n]++l) ([n]++m):=.cons (.inl ⟨rfl,rfl⟩) (.ints hl)
theorem zgy:∀g h:Sg,CmpD g.D h.D (gEn g) (gEn h)
 |.op k,.op k'=>.tup (zcq (l:=[k]) (m:=[k']) rfl)
 |.sh u w,.sh u' w'=>.tup (zcq (l:=[u,w]) (m:=[u',w']) rfl)
 |.tr u w,.tr u' w'=>.tup (zcq (l:=[u,w]) (m:=[u',w']) rfl)
 |.op _,.sh _ _=>.tup (kx (by decide +kernel) (by decide) (by decide +kernel))
 |.op _,.tr _ _=>.tup (kx (by decide +kernel) (by decide) (by decide +kernel))
 |.sh _ _,.op _=>.tup (kx (by decide +kernel) (by decide) (by decide +kernel))
 |.sh _ _,.tr _ _=>.tup (kx (by decide +kernel) (by decide) (by decide +kernel))
 |.tr _ _,.op _=>.tup (kx (by decide +kernel) (by decide) (by decide +kernel))
 |.tr _ _,.sh _ _=>.tup (kx (by decide +kernel) (by decide) (by decide +kernel))
theorem zod(x y:Sn):CmpD x.D y.D x.en y.en:=.tup (.cons (.int x.b y.b) (.cons (.tup (.ents x.w y.w)) (.cons (.int x.c y.c) (.cons (zgy x.g y.g) (.cons (.int x.k y.k) .nil)))))
theorem ztt(x y:En)(h:x.D=y.D):x=y:=by
 have:=zs6 _ _ h
 cases x;cases y;simp only[En.l,List.cons.injEq,and_true]at this;obtain⟨rfl,rfl,rfl,rfl⟩:=this;rfl
theorem zj5:∀ws xs:List En,ws.map En.D=xs.map En.D->ws=xs
 |[],[],_=>rfl
 |[],_::_,h=>nomatch h
 |_::_,[],h=>nomatch h
 |w::ws,x::xs,h=>by
  rw[List.map_cons,List.map_cons,List.cons.injEq]at h;rw[ztt _ _ h.1,zj5 ws xs h.2]
theorem ztu(x y:Sg)(h:gEn x=gEn y):x=y:=by
 cases x <;> cases y <;> simp[gEn]at h <;> simp[h]
theorem zqi(x y:Sg)(h:x.D=y.D):x=y:=by
 rcases zgy x y with⟨_,e⟩ |⟨n,_⟩
 ·exact ztu _ _ e
 ·exact absurd h n
theorem zoe(x y:Sn)(h:x.D=y.D):x=y:=by
 cases x;cases y;simp only[Sn.D,PyData.tuple.injEq,List.cons.injEq,PyData.int.injEq,and_true]at h;obtain⟨rfl,h1,rfl,h2,rfl⟩:=h;rw[zj5 _ _ h1,zqi _ _ h2]
theorem zj6:∀ws:List En,keyBs (ws.map En.D)=true/\PyData.canLayAll0 (ws.map En.D)=true/\PyData.depthAll (ws.map En.D)<=2
 |[]=>⟨rfl,rfl,by simp[PyData.depthAll]⟩
 |w::ws=>by
  obtain⟨h1,h2,h3⟩:=zj6 ws;refine⟨?_,?_,?_⟩
  ·rw[List.map_cons,keyBs,h1];rfl
  ·rw[List.map_cons,PyData.canLayAll0,h2];rfl
  ·rw[List.map_cons,PyData.depthAll];have:(En.D w).depth<=2:=by simp[En.D,tD,En.l,PyData.depth,PyData.depthAll]
   lia
theorem zof(g:Sg):qc g.D=true/\g.D.canLay0=true/\g.D.depth<=2:=by
 cases g <;> exact⟨rfl,by simp only[Sg.D,PyData.canLay0,PyData.canLayAll0,Bool.and_true];decide +kernel,by simp[Sg.D,PyData.depth,PyData.depthAll]⟩
theorem zcr(x:Sn):KyD x.D:=by
 obtain⟨h1,h2,h3⟩:=zj6 x.w;obtain⟨g1,g2,g3⟩:=zof x.g;refine⟨⟨_,rfl⟩,?_,?_,?_⟩
 ·simp[Sn.D,qc,keyBs,h1,g1]
 ·simp[Sn.D,PyData.canLay0,PyData.canLayAll0,h2,g2]
 ·simp only[Sn.D,PyData.depth,PyData.depthAll];lia
theorem sn_enc:SQ.SEnc Sn.D Sn.en:=ziq zod (λx y h=>by
  rcases zod x y with⟨e1,_⟩ |⟨_,np,_⟩
  ·exact zoe _ _ e1
  ·exact absurd (by rw[h]) (np [] [])) (λx=>⟨_,_,rfl⟩) zcr
end
section
variable {P:Program}{w:World}{K:PySem.W.Frag}{mg:Str->Option Value}{base:Heap}{f:Addr}{fd:FuncData}
def za7(c:Cl)(m:Nat)(s:Sn):List Sn:=[true,false].map λb=>(y8 c s b m).1
def reach(c:Cl):List Int->List Sn->List Sn
 |[],L=>L
 |m::ms,L=>reach c ms (L.flatMap (za7 c m.toNat))
theorem zcs(c:Cl)(m:Int):∀(bs:List Int) (L:List Sn),reach c (bs ++ [m]) L=(reach c bs L).flatMap (za7 c m.toNat)
 |[],_=>rfl
 |b::bs,L=>zcs c m bs _
structure Bg(bs:List Int):Prop where
 lo:∀b∈bs,0<=b/\b<=3
 ln:bs.length<=8
structure Gs(c:Cl)(j:Int)(s:Sn):Prop where
 pa:Pa c s
 b:s.b=j
 k:s.k<=3 * j
 w:s.w.length<=3 * j
theorem Gs.step{c:Cl}(o:c.Ok){j:Int}{s:Sn}(h:Gs c j s)(hj:j<=100)(snd:Bool){m:Nat}(hm:m<=3):Gs c (j+1) (y8 c s snd m).1:=by
 have h1:=h.b;have h2:=h.k;have h3:=h.w;obtain⟨p,e1,e2,e3,_⟩:=zj4 o h.pa (by lia) snd m;exact⟨p,by (clear hj hm h2;lia),by lia,by lia⟩
theorem Gs.fir{c:Cl}(o:c.Ok):Gs c 0 (k7 c):=by
 have:=o.u.f1;have:=o.u.f2;have:=o.u.c2;have:=o.g.f1;have nw:∀{P:En->Prop},∀e∈(k7 c).w,P e:=λ{P} e he=>absurd he List.not_mem_nil;have ok:(k7 c).Ok c:=⟨Int.le_refl 0,show(0:Int)<=900000 by decide,nw,by show 0<=c.u.f;omega,by show c.u.f<=10000;lia,⟨Int.le_refl 0,by lia⟩⟩
 exact⟨⟨ok,nw,List.Pairwise.nil,Int.le_refl 0⟩,rfl,Int.le_refl 0,show((0:Nat):Int)<=3 * 0 by decide⟩
def LayAt(c:Cl)(bs:List Int)(L:List Sn):Prop:=(L.map Sn.en).Pairwise (· < ·)/\∀z,z∈L↔z∈reach c bs [k7 c]
theorem zct:∀(l l':List (List Int)),l.Nodup->(∀a∈l,a∈l')->l.length<=l'.length
 |[],_,_,_=>Nat.zero_le _
 |a::l,l',nd,h=>by
  have ha:=h a List.mem_cons_self;obtain⟨na,nl⟩:=List.nodup_cons.mp nd;have:=zct l (l'.erase a) nl λb hb=>(List.mem_erase_of_ne (by rintro rfl;exact na hb)).mpr (h b (List.mem_cons_of_mem _ hb));rw[List.length_erase_of_mem ha]at this;have:0<l'.length:=List.length_pos_of_mem ha;rw[List.length_cons];lia
theorem zis{l:List (List Int)}(h:l.Pairwise (· < ·)):l.Nodup:=h.imp λh e=>by subst e;exact List.lt_irrefl _ h
theorem vb(c:Cl):∀(bs:List Int) (L:List Sn),(reach c bs L).length=L.length * 2 ^ bs.length
 |[],L=>by simp[reach]
 |m::ms,L=>by
  rw[reach,vb c ms];have:(L.flatMap (za7 c m.toNat)).length=L.length * 2:=by
   induction L with
   |nil=>rfl
   |cons x L ih=>rw[List.flatMap_cons,List.length_append,ih,List.length_cons];show 2+_=_;lia
  rw[this,List.length_cons,Nat.pow_succ];rw[Nat.mul_assoc,Nat.mul_comm 2]
theorem LayAt.len{c:Cl}{bs:List Int}{L:List Sn}(h:LayAt c bs L):L.length<=2 ^ bs.length:=by
 have:=zct (L.map Sn.en) ((reach c bs [k7 c]).map Sn.en) (zis h.1) λa ha=>by
  obtain⟨x,hx,e⟩:=List.mem_map.mp ha;exact List.mem_map.mpr ⟨x,(h.2 x).mp hx,e⟩
 rw[List.length_map,List.length_map,vb]at this;simpa using this
theorem zgz{c:Cl}(o:c.Ok):∀(bs:List Int) (L:List Sn) (j:Int),(∀b∈bs,0<=b/\b<=3)->j+bs.length<=100->(∀s∈L,Gs c j s)->∀s∈reach c bs L,Gs c (j+bs.length) s
 |[],L,j,_,_,h,s,hs=>by simpa using h s hs
 |m::ms,L,j,hb,hj,h,s,hs=>by
  rw[List.length_cons]at hj ⊢;have h0:=hb m List.mem_cons_self;have:=zgz o ms (L.flatMap (za7 c m.toNat)) (j+1) (λb hb'=>hb b (List.mem_cons_of_mem _ hb')) (by lia) (λx hx=>by
   obtain⟨y,hy,hxy⟩:=List.mem_flatMap.mp hx;obtain⟨b,_,rfl⟩:=List.mem_map.mp hxy;exact(h y hy).step o (by lia) b (by lia)) s hs
  rw[show j+((ms.length+1:Nat):Int)=j+1+ms.length by lia];exact this
theorem LayAt.gs{c:Cl}(o:c.Ok){bs:List Int}{L:List Sn}(h:LayAt c bs L)(hb:∀b∈bs,0<=b/\b<=3)(hl:bs.length<=8):∀s∈L,Gs c bs.length s:=λs hs=>by
 have:=zgz o bs [k7 c] 0 hb (by lia) (λx hx=>by rw[List.mem_singleton.mp hx];exact Gs.fir o) s ((h.2 s).mp hs)
 rwa [Int.zero_add]at this
theorem LayAt.fir(c:Cl):LayAt c [] [k7 c]:=⟨List.pairwise_singleton _ _,λz=>Iff.rfl⟩
theorem zog(L:List Sn)(c:Cl)(m:Nat):(L.flatMap λs=>[true,false].map λb=>(y8 c s b m).1.D)=(L.flatMap (za7 c m)).map Sn.D:=by
 induction L with
 |nil=>rfl
 |cons x L ih=>rw[List.flatMap_cons,List.flatMap_cons,List.map_append,ih];rfl
theorem LayAt.step{c:Cl}{pre:List Int}{L zs:List Sn}(m:Int)(h:LayAt c pre L)(hz:vg Sn.en (L.flatMap (za7 c m.toNat)) zs):LayAt c (pre ++ [m]) zs:=by
 refine⟨hz.1,λz=>?_⟩;rw[hz.2,zcs,List.mem_flatMap,List.mem_flatMap];exact⟨λ⟨x,hx,h1⟩=>⟨x,(h.2 x).mp hx,h1⟩,λ⟨x,hx,h1⟩=>⟨x,(h.2 x).mpr hx,h1⟩⟩
theorem zj7{g:DTG}{tt:DTT}{ti2:DTF}{is2:List Nat}{g2:DTG}{tt2:DTT}{te:DTE}{σ0:DSt}{Q:List D->Prop}(P:List D->List D->Prop)
  (turn:∀(d:D) (ds acc:List D) (N:List D->Prop),P (d::ds) acc->(∀acc',P ds acc'->N acc')->g d σ0 λσ1=>tt σ1 λb=>if b=true then ti2 σ1 λes=>zk6 (lcF g2 tt2 te (wg is2 0 σ1)) es acc N else N acc)
  (fin:∀acc,P [] acc->Q acc):∀(ds acc:List D),P ds acc->zif g tt ti2 is2 g2 tt2 te σ0 ds acc Q
 |[],acc,h=>fin acc h
 |d::ds,acc,h=>turn d ds acc _ h λacc' h'=>zj7 P turn fin ds acc' h'
theorem zcu{α:Type}(xs:List α):xs = []\/∃ys y,xs=ys ++ [y]:=by
 rcases List.eq_nil_or_concat xs with h |⟨ys,y,h⟩
 ·exact .inl h
 ·exact .inr ⟨ys,y,by rw[h,List.concat_eq_append]⟩
def zcv(L:List Sn):D:=.list (L.map Sn.D)
def Lays(c:Cl)(bs:List Int)(lys:List (List Sn)):Prop:=lys.length=bs.length+1/\∀i L,lys[i]?=some L->LayAt c (bs.take i) L
theorem Lays.snoc{c:Cl}{pre:List Int}{m:Int}{lys:List (List Sn)}{X zs:List Sn}(hL:Lays c pre (lys ++ [X]))(LA:LayAt c pre X)(ll:lys.length=pre.length)(hz:vg Sn.en (X.flatMap (za7 c m.toNat)) zs):Lays c (pre ++ [m]) (lys ++ [X] ++ [zs]):=by
 refine⟨?_,λi L h=>?_⟩
 ·rw[List.length_append,List.length_append,List.length_append,List.length_singleton,List.length_singleton,List.length_singleton,ll]
 ·by_cases c1:i<lys.length+1
  ·rw[List.getElem?_append_left (by simpa using c1)]at h;have:=hL.2 i L h
   rwa [List.take_append_of_le_length (by lia)]
  ·rw[List.getElem?_append_right (by simpa using c1)]at h
   have hi:i-(lys ++ [X]).length=0:=by
    have:=(List.getElem?_eq_some_iff.mp h).1;simpa using this
   rw[hi]at h
   cases h;have ei:i=pre.length+1:=by rw[List.length_append,List.length_singleton]at hi;lia
   rw[ei,List.take_of_length_le (by simp)];exact LA.step m hz
def wf:DSp:=λws Q=>∃(c:Cl) (bs:List Int),ws = [.val c.D,.val (.tuple (bs.map PyData.int))]/\c.Ok/\Bg bs/\∀lys,Lays c bs lys->Q (.new (lys.map zcv))
theorem ju(B:Blt mg)(F:Fun K "standings_ahead" "standings_ahead" xp f fd)(C_first_of:Cal P w K mg base 1 "first_of" ["caller"] (ye K zbe))(C_stepped:Cal P w K mg base 5 "stepped" ["caller", "standing", "sound", "many"] (ye K zcp)):FnOk P w K mg base CX0 6 f fd ["caller", "beginnings"] (ye K wf):=by
 refine F.dok sc_standings_ahead (λws Q h=>?_) (λcdv A outer s H ws Q E hr h=>?_)
 ·obtain⟨c,bs,rfl,_⟩:=h;rfl
 obtain⟨c,bs,rfl,o,bg,q⟩:=h;have ln:=bg.ln;refine⟨_,(zd (zbq (i:=2) sc_standings_ahead.nd rfl (Or.inl rfl) (x4 (za (DF.de (x4 (za (zn C_first_of hr rfl (zj 0 zr)) zi))) zi zr9))) (zd (wn PassesOwn.never rfl (v6 (zg 1)) (zf (i:=3) sc_standings_ahead.nd rfl (Or.inr rfl)) (zd (yc (i:=4) sc_standings_ahead.nd rfl (Or.inl rfl) (zm (zc 2) (jf zb) (λ_ _=>rfl))) (zd (yc (i:=5) sc_standings_ahead.nd rfl (Or.inl rfl) (DF.de (zig hr rfl B.sorted rfl (N':=["standing", "sound", "caller", "many"]) (capt:=["caller", "many"]) (k:=2) (js:=[0,3]) ⟨rfl,by decide,rfl,by decide,(.cons rfl (.cons rfl .nil)),rfl,(.cons rfl (Or.inl rfl) rfl (Or.inl rfl) (.cons rfl (Or.inl rfl) rfl (Or.inl rfl) .nil)),rfl,by decide⟩ (wk (zc 4)) (λ_ _ _ _=>(zf (i:=0) (show List.Nodup (["standing", "sound", "caller", "many"]:List Str) by decide +kernel) rfl (Or.inl rfl) (Or.inr rfl))) (λ_ _ _ _=>j5) (λ_ _ _ _=>(v6 (zo (za xx (za xx zi yg) yg)))) (λ_ _ _ _=>(zf (i:=1) (show List.Nodup (["standing", "sound", "caller", "many"]:List Str) by decide +kernel) rfl (Or.inl rfl) (Or.inr rfl))) (λ_ _ _ _=>j5) (λ_ _ _ _=>(zm (DE.dv (zn C_stepped hr rfl (zj 2 (zj 0 (zj 1 (zj 3 zr)))))) zb (λ_ _=>rfl)))))) (zh (ww 2 (zg 5)))))) (zh (zek 2)))),?_⟩;walk_at "ds";refine⟨c,rfl,?_⟩;walk_at "ds";refine xa (λds σ=>∃(pre ms:List Int) (lys:List (List Sn)) (L:List Sn) (u3 u4 u5:Option W),ds=ms.map PyData.int/\pre++ms=bs/\Lays c pre (lys ++ [L])/\σ = [some (.val c.D),some (.val (.tuple (bs.map PyData.int))),some (.own (.lst ((lys ++ [L]).map zcv))),u3,u4,u5]) ?_ ?_ ⟨[],bs,[],[k7 c],_,_,_,rfl,rfl,⟨rfl,λi L h=>?_⟩,rfl⟩
 ·rintro d ds σ N ⟨pre,ms,lys,L,u3,u4,u5,e,eb,hL,rfl⟩ k
  cases ms with
  |nil=>cases e
  |cons m ms=>
   cases e;have hm:0<=m/\m<=3:=bg.lo m (by rw[<-eb];simp);have hp:∀b∈pre,0<=b/\b<=3:=λb hb=>bg.lo b (by rw[<-eb];simp[hb]);have hl:pre.length+(ms.length+1)=bs.length:=by rw[<-eb];simp
   have ll:lys.length=pre.length:=by have:=hL.1;rw[List.length_append,List.length_singleton]at this;(clear ln hm hl;lia)
   have LA:LayAt c pre L:=by
    have:=hL.2 lys.length L (by simp)
    rwa [ll,List.take_length]at this
   have gs:=LA.gs o hp (by lia);have p7:2 ^ pre.length<=128:=Nat.pow_le_pow_right (n:=2) (by decide) (by lia:pre.length<=7);have len:=LA.len;rw[List.map_append,List.map_cons,List.map_nil];walk_at "ds";refine⟨_,atI_end _ _,?_⟩;simp only[zcv];walk_at "ds";refine zj7 (λds acc=>∃(X Y:List Sn),ds=Y.map Sn.D/\X++Y=L/\acc=(X.flatMap (za7 c m.toNat)).map Sn.D) ?_ ?_ _ _ ⟨[],L,rfl,rfl,rfl⟩
   ·rintro d ds acc N2 ⟨X,Y,e,eX,rfl⟩ k2
    cases Y with
    |nil=>cases e
    |cons s Y=>
     cases e;have g:=gs s (by rw[<-eX];simp);have gb:=g.b;have gk:=g.k;have gw:=g.w;have lx:X.length+(Y.length+1)=L.length:=by rw[<-eX];simp
     walk_at "ds";refine zk8 (xs:=[true,false]) PyData.bool (λb=>(y8 c s b m.toNat).1.D) ?_ (λb _ Q hQ=>?_) (λb _=>zcr _) ?_
     ·rw[<-zog,List.length_flatMap]
      have:∀X:List Sn,(X.map λs=>(([true,false]:List Bool).map λb=>(y8 c s b m.toNat).1.D).length).sum=X.length * 2:=λX=>by
       induction X with
       |nil=>rfl
       |cons x X ih=>rw[List.map_cons,List.sum_cons,ih,List.length_cons];show 2+_=_;(clear ln hl ll p7 len gb gk gw lx;lia)
      rw[this];show X.length * 2+2<=300;(clear ln hm hl ll gb gk gw;lia)
     ·walk_at "ds";refine⟨c,s,b,m.toNat,by rw[show((m.toNat:Nat):Int)=m by (clear ln hl ll p7 len gb gk gw lx;lia)],o,g.pa.ok,by (clear hm p7 len lx;lia),by (clear ln hl ll p7 len gb gk gw lx;lia),⟨g.pa.k0,by (clear hm p7 len lx;lia)⟩,?_⟩;simp only[stD];walk_at "ds"
      first|exact hQ|exact⟨_,zw _ _,hQ⟩
     ·exact k2 _ ⟨X ++ [s],Y,rfl,by rw[List.append_assoc];exact eX,by rw[List.flatMap_append,List.map_append];rfl⟩
   ·rintro acc ⟨X,Y,e,eX,rfl⟩
    cases Y with
    |cons s Y=>cases e
    |nil=>
     rw[List.append_nil]at eX;subst eX;refine⟨?_,Sn,Sn.D,Sn.en,_,sn_enc,rfl,λzs hz=>?_⟩
     ·have:=vb c [m] X;rw[List.length_map];rw[show reach c [m] X=X.flatMap (za7 c m.toNat) from rfl]at this;rw[this];show X.length * 2<=300;(clear ln hm hl ll this;lia)
     ·walk_at "ds";rw[List.length_append,List.length_map,List.length_singleton];have hL2:Lays c (pre ++ [m]) (lys ++ [X] ++ [zs]):=hL.snoc LA ll hz;exact⟨by (clear hm p7 len;lia),k _ ⟨pre ++ [m],ms,lys ++ [X],zs,_,_,_,rfl,by rw[List.append_assoc];exact eb,hL2,by rw[List.map_append,List.map_append];rfl⟩⟩
 ·rintro σ ⟨pre,ms,lys,L,u3,u4,u5,e,eb,hL,rfl⟩
  cases ms with
  |cons m ms=>cases e
  |nil=>
   rw[List.append_nil]at eb;subst eb;exact q _ hL
 ·cases i with
  |zero=>cases h;exact LayAt.fir c
  |succ i=>simp at h
end
section
variable {P:Program}{w:World}{K:PySem.W.Frag}{mg:Str->Option Value}{base:Heap}{f:Addr}{fd:FuncData}
def yr:Sg->Option Int
 |.sh u _=>some u
 |_=>none
def qt(c:Cl)(bs:List Int)(M:Int):Prop:=(bs.length:Int)<=M/\(∀s∈reach c bs [k7 c],∀u,yr s.g=some u->u<=M)/\(M=bs.length\/∃s∈reach c bs [k7 c],yr s.g=some M)
theorem zoh{c:Cl}{bs:List Int}{L:List Sn}(h:LayAt c bs L){M:Int}(hm:M∈(bs.length:Int)::L.filterMap λs=>yr s.g)(hx:∀a∈(bs.length:Int)::L.filterMap λs=>yr s.g,a<=M):qt c bs M:=by
 refine⟨hx _ List.mem_cons_self,λs hs u hu=>hx u (List.mem_cons_of_mem _ (List.mem_filterMap.mpr ⟨s,(h.2 s).mpr hs,hu⟩)),?_⟩;rcases List.mem_cons.mp hm with e|hm
 ·exact .inl e
 ·obtain⟨s,hs,hu⟩:=List.mem_filterMap.mp hm;exact .inr ⟨s,(h.2 s).mp hs,hu⟩
theorem zoi{c:Cl}{bs:List Int}{M N:Int}(h:qt c bs M)(g:qt c bs N):M=N:=by
 have le:∀{M N:Int},qt c bs M->qt c bs N->M<=N:=λ{M N} h g=>by
  rcases h.2.2 with e |⟨s,hs,hu⟩
  ·rw[e];exact g.1
  ·exact g.2.1 s hs M hu
 exact Int.le_antisymm (le h g) (le g h)
def zaj:DSp:=λws Q=>∃(c:Cl) (bs:List Int),ws = [.val c.D,.val (.tuple (bs.map PyData.int))]/\c.Ok/\Bg bs/\∀M,qt c bs M->Q (.val (.int M))
theorem zfc(B:Blt mg)(F:Fun K "calm_from" "calm_from" qe f fd){t_SHUT:Tok}(G_SHUT:mg "SHUT" = some (.str "shut" t_SHUT))(C_standings_ahead:Cal P w K mg base 6 "standings_ahead" ["caller", "beginnings"] (ye K wf)):FnOk P w K mg base CX0 7 f fd ["caller", "beginnings"] (ye K zaj):=by
 refine F.dok sc_calm_from (λws Q h=>?_) (λcdv A outer s H ws Q E hr h=>?_)
 ·obtain⟨c,bs,rfl,_⟩:=h;rfl
 obtain⟨c,bs,rfl,o,bg,q⟩:=h;have ln:=bg.ln;refine⟨_,(zd (zmp (i:=2) sc_calm_from.nd rfl (Or.inl rfl) rfl (N':=["standing"]) (capt:=[]) (k:=1) (js:=[]) ⟨rfl,by decide,rfl,by decide,.nil,rfl,.nil,rfl,by decide⟩ (wk (DE.dv (zm (DE.dv (zn C_standings_ahead hr rfl (zj 0 (zj 1 zr)))) (jf zb) (λ_ _=>rfl)))) (λ_ _ _ _=>(zf (i:=0) (show List.Nodup (["standing"]:List Str) by decide +kernel) rfl (Or.inl rfl) (Or.inr rfl))) (λ_ _ _ _=>j5) (λ_ _ _ _=>(zm (zc 0) zb (λ_ _=>rfl)))) (zh (zu (yx (zmw rfl) rfl B.max boot_max (zt (DE.dv (zp z6 (DE.dv (DF.de (x4 (za (yx zqw rfl B.len PySem.boot_len (zt (zc 1) yi)) zi)))) (DE.dv (DF.de (zb4 rfl (N':=["gate"]) (capt:=[]) (k:=1) (js:=[]) ⟨rfl,by decide,rfl,by decide,.nil,rfl,.nil,rfl,by decide⟩ (wk (zc 2)) (λ_ _ _ _=>(zf (i:=0) (show List.Nodup (["gate"]:List Str) by decide +kernel) rfl (Or.inl rfl) (Or.inr rfl))) (λ_ _ _ _=>(ki (yb (k5 hr) (DE.dv (zm (zc 0) zb (λ_ _=>rfl))) (DE.dv (yh (d:=.str "shut") (v:=.str "shut") rfl G_SHUT ⟨_,rfl⟩ (λ_=>.str))) (z0 _)))) (λ_ _ _ _=>(zm (zc 0) zb (λ_ _=>rfl)))))))) yi))))),?_⟩;walk_at "ds";refine⟨c,bs,rfl,o,bg,λlys hL=>?_⟩;rcases zcu lys with rfl |⟨ly,L,rfl⟩
 ·cases hL.1
 have ll:ly.length=bs.length:=by have:=hL.1;rw[List.length_append,List.length_singleton]at this;omega
 have LA:LayAt c bs L:=by
  have:=hL.2 ly.length L (by simp)
  rwa [ll,List.take_length]at this
 have p8:2 ^ bs.length<=256:=Nat.pow_le_pow_right (n:=2) (by decide) ln;have len:=LA.len;rw[List.map_append,List.map_cons,List.map_nil];walk_at "ds";refine⟨_,atI_end _ _,?_⟩;simp only[zcv];walk_at "ds";rw[List.length_map];refine⟨by lia,zfx Sn.D (λs=>s.g.D) (λs _ k hk=>?_) ?_⟩
 ·simp only[Sn.D];walk_at "ds";exact⟨_,xh _ _ _ _ _,hk⟩
 walk_at "ds";rw[List.length_map];refine⟨by lia,?_⟩;refine kj (λs:Sn=>s.g.D) (λs=>(yr s.g).map PyData.int) (λs _ k hk=>?_) ?_
 ·cases hg:s.g with
  |op a=>
   rw[hg]at hk;simp only[Sg.D];walk_at "ds";refine⟨_,zw _ _,?_⟩;walk_at "ds";rw[if_neg zgp];exact hk
  |sh u w=>
   rw[hg]at hk;simp only[Sg.D];walk_at "ds";refine⟨_,zw _ _,?_⟩;walk_at "ds";exact⟨_,ym _ _ _,hk⟩
  |tr a w=>
   rw[hg]at hk;simp only[Sg.D];walk_at "ds";refine⟨_,zw _ _,?_⟩;walk_at "ds";rw[if_neg zgq];exact hk
 have e1:(L.filterMap λs=>(yr s.g).map PyData.int)=(L.filterMap λs=>yr s.g).map PyData.int:=by
  rw[List.map_filterMap]
 rw[e1];walk_at "ds";have l2:=List.length_filterMap_le (λs:Sn=>yr s.g) L;refine⟨by rw[List.length_map];lia,(bs.length:Int)::L.filterMap (λs=>yr s.g),?_,Nat.succ_pos _,λm hm hx=>q m (zoh LA hm hx)⟩;rw[List.length_map];exact zdk ((bs.length:Int)::_)
end
section
variable {P:Program}{w:World}{K:PySem.W.Frag}{mg:Str->Option Value}{base:Heap}{f:Addr}{fd:FuncData}
def KsOf(R:List Sn)(ks:List (D×D)):Prop:=∃xs:List Sn,ks.map (·.1)=xs.map Sn.D/\xs.Nodup/\∀z,z∈xs↔z∈R
theorem KsOf.nil:KsOf [] []:=⟨[],rfl,List.nodup_nil,λ_=>Iff.rfl⟩
theorem zlh(d e:D)(p:D×D):(zd0 d e p).1=p.1:=by
 unfold zd0
 split <;> rfl
theorem KsOf.add{R:List Sn}{ks ks':List (D×D)}{s:Sn}{e:D}(h:KsOf R ks)(a:zny ks s.D e ks'):KsOf (R ++ [s]) ks':=by
 obtain⟨xs,h1,h2,h3⟩:=h;have key:(∃p∈ks,p.1=s.D)↔s∈xs:=by
  have:(∃p∈ks,p.1=s.D)↔s.D∈ks.map (·.1):=by rw[List.mem_map]
  rw[this,h1,List.mem_map];exact⟨λ⟨x,hx,e⟩=>zoe _ _ e ▸ hx,λh=>⟨s,h,rfl⟩⟩
 rcases a with⟨c,rfl⟩ |⟨c,rfl⟩
 ·refine⟨xs,?_,h2,λz=>?_⟩
  ·rw[List.map_map,<-h1];exact List.map_congr_left λp _=>zlh _ _ p
  ·rw[h3,List.mem_append,List.mem_singleton];refine⟨.inl,λh=>h.elim id λh=>?_⟩;rw[h];exact(h3 s).mp (key.mp c)
 ·have ns:s∉xs:=λh=>by
   obtain⟨p,hp,e⟩:=key.mpr h;exact c p hp e
  refine⟨xs ++ [s],by rw[List.map_append,List.map_append,h1];rfl,?_,λz=>by rw[List.mem_append,List.mem_append,h3]⟩;rw[List.nodup_append];refine⟨h2,List.nodup_cons.mpr ⟨List.not_mem_nil,List.nodup_nil⟩,λx hx y hy=>?_⟩;rw[List.mem_singleton]at hy;rw[hy];exact λz=>ns (z ▸ hx)
theorem KsOf.keys{R:List Sn}{ks:List (D×D)}(h:KsOf R ks):∀p∈ks,KyD p.1:=λp hp=>by
 obtain⟨xs,h1,_⟩:=h;have:p.1∈xs.map Sn.D:=by rw[<-h1];exact List.mem_map.mpr ⟨p,hp,rfl⟩
 obtain⟨x,_,e⟩:=List.mem_map.mp this;rw[<-e];exact zcr x
theorem KsOf.len{R:List Sn}{ks:List (D×D)}(h:KsOf R ks):ks.length<=R.length:=by
 obtain⟨xs,h1,h2,h3⟩:=h;have e:=congrArg List.length h1;rw[List.length_map,List.length_map]at e;have:=zct (xs.map Sn.en) (R.map Sn.en) (by
  rw[List.Nodup,List.pairwise_map];exact h2.imp λh z=>h (sn_enc.inj _ _ z)) λa ha=>by
  obtain⟨x,hx,e⟩:=List.mem_map.mp ha;exact List.mem_map.mpr ⟨x,(h3 x).mp hx,e⟩
 rw[List.length_map,List.length_map]at this;lia
def ja:DSp:=λws Q=>∃(c:Cl) (bs:List Int),ws = [.val c.D,.val (.tuple (bs.map PyData.int))]/\c.Ok/\Bg bs/\∀lys,Lays c bs lys->Q (.new (lys.map zcv))
theorem zda(B:Blt mg)(F:Fun K "_law_every" "_law_every" vj f fd)(C__law_step:Cal P w K mg base 3 "_law_step" ["_law_caller_here", "_law_standing", "_law_sound", "_law_many"] (ye K vm))(C__law_first:Cal P w K mg base 1 "_law_first" ["_law_caller_here"] (ye K k9)):FnOk P w K mg base CX0 4 f fd ["_law_caller_here", "_law_beginnings"] (ye K ja):=by
 refine F.dok sc__law_every (λws Q h=>?_) (λcdv A outer s H ws Q E hr h=>?_)
 ·obtain⟨c,bs,rfl,_⟩:=h;rfl
 obtain⟨c,bs,rfl,o,bg,q⟩:=h;have ln:=bg.ln;refine⟨_,(zd (zbq (i:=2) sc__law_every.nd rfl (Or.inl rfl) (x4 (za (DF.de (x4 (za (zn C__law_first hr rfl (zj 0 zr)) zi))) zi zr9))) (zd (wn PassesOwn.never rfl (v6 (zg 1)) (zf (i:=3) sc__law_every.nd rfl (Or.inl rfl)) (zd (zn0 (i:=4) sc__law_every.nd rfl (Or.inl rfl)) (zd (wn PassesOwn.never rfl (v6 (zm (zc 2) (jf zb) (λ_ _=>rfl))) (zf (i:=5) sc__law_every.nd rfl (Or.inl rfl)) (zh (wn PassesOwn.never rfl (v6 (zo (za xx (za xx zi yg) yg))) (zf (i:=6) sc__law_every.nd rfl (Or.inl rfl)) (zh (zn1 4 hr (zm (DE.dv (zn C__law_step hr rfl (zj 0 (zj 5 (zj 6 (zj 3 zr)))))) zb (λ_ _=>rfl)) xx))))) (zh (ww 2 (DF.de (j3 (zbx hr) rfl B.sorted boot_sorted (zt (DE.dv (DF.de (zk9 4 rfl B.listT rfl))) yi)))))))) (zh (zek 2)))),?_⟩;walk_at "ds";refine⟨c,rfl,?_⟩;walk_at "ds";refine xa (λds σ=>∃(pre ms:List Int) (lys:List (List Sn)) (L:List Sn) (u3 u4 u5 u6:Option W),ds=ms.map PyData.int/\pre++ms=bs/\Lays c pre (lys ++ [L])/\σ = [some (.val c.D),some (.val (.tuple (bs.map PyData.int))),some (.own (.lst ((lys ++ [L]).map zcv))),u3,u4,u5,u6]) ?_ ?_ ⟨[],bs,[],[k7 c],_,_,_,_,rfl,rfl,⟨rfl,λi L h=>?_⟩,rfl⟩
 ·rintro d ds σ N ⟨pre,ms,lys,L,u3,u4,u5,u6,e,eb,hL,rfl⟩ k
  cases ms with
  |nil=>cases e
  |cons m ms=>
   cases e;have hm:0<=m/\m<=3:=bg.lo m (by rw[<-eb];simp);have hp:∀b∈pre,0<=b/\b<=3:=λb hb=>bg.lo b (by rw[<-eb];simp[hb]);have hl:pre.length+(ms.length+1)=bs.length:=by rw[<-eb];simp
   have ll:lys.length=pre.length:=by have:=hL.1;rw[List.length_append,List.length_singleton]at this;lia
   have LA:LayAt c pre L:=by
    have:=hL.2 lys.length L (by simp)
    rwa [ll,List.take_length]at this
   have gs:=LA.gs o hp (by lia);have p7:2 ^ pre.length<=128:=Nat.pow_le_pow_right (n:=2) (by decide) (by lia:pre.length<=7);have len:=LA.len;have fl:∀X:List Sn,(X.flatMap (za7 c m.toNat)).length=X.length * 2:=λX=>vb c [m] X;rw[List.map_append,List.map_cons,List.map_nil];walk_at "ds";refine⟨_,atI_end _ _,?_⟩;simp only[zcv];walk_at "ds";refine xa (λds σ=>∃(X Y:List Sn) (ks:List (D×D)) (u5 u6:Option W),ds=Y.map Sn.D/\X++Y=L/\KsOf (X.flatMap (za7 c m.toNat)) ks/\σ = [some (.val c.D),some (.val (.tuple (bs.map PyData.int))),some (.own (.lst (lys.map zcv ++ [.list (L.map Sn.D)]))),some (.val (.int m)),some (.own (.dcD ks)),u5,u6]) ?_ ?_ ⟨[],L,[],_,_,rfl,rfl,KsOf.nil,rfl⟩
   ·rintro d ds σ N2 ⟨X,Y,ks,u5,u6,e,eX,hks,rfl⟩ k2
    cases Y with
    |nil=>cases e
    |cons s Y=>
     cases e;have g:=gs s (by rw[<-eX];simp);have gb:=g.b;have gk:=g.k;have gw:=g.w;have lx:X.length+(Y.length+1)=L.length:=by rw[<-eX];simp
     have lk:=hks.len;rw[fl]at lk;have ms:((m.toNat:Nat):Int)=m:=by (clear ln hl ll p7 len gb gk gw lx lk;lia)
     walk_at "ds";refine⟨c,s,true,m.toNat,by rw[ms],o,g.pa,by (clear hm p7 len lx lk ms;omega),by (clear ln hl ll p7 len gb gk gw lx lk;lia),?_⟩;simp only[stD];walk_at "ds";refine⟨_,zw _ _,zcr _,hks.keys,by (clear ln hm hl ll gb gk gw ms;lia),λks1 h1=>?_⟩;have k1:=hks.add h1;have l1:=k1.len;rw[List.length_append,fl,List.length_singleton]at l1;walk_at "ds";refine⟨c,s,false,m.toNat,by rw[ms],o,g.pa,by (clear hm p7 len lx lk ms l1;omega),by (clear ln hl ll p7 len gb gk gw lx lk l1;lia),?_⟩;simp only[stD];walk_at "ds";refine⟨_,zw _ _,zcr _,k1.keys,by (clear ln hm hl ll gb gk gw lk ms;lia),λks2 h2=>?_⟩;exact k2 _ ⟨X ++ [s],Y,ks2,_,_,rfl,by rw[List.append_assoc];exact eX,by rw[List.flatMap_append];have:=k1.add h2;rwa [List.append_assoc]at this,rfl⟩
   ·rintro σ ⟨X,Y,ks,u5,u6,e,eX,hks,rfl⟩
    cases Y with
    |cons s Y=>cases e
    |nil=>
     rw[List.append_nil]at eX;subst eX;obtain⟨xs,h1,h2,h3⟩:=hks;walk_at "ds";refine⟨Sn,Sn.D,Sn.en,xs,sn_enc,h1,λzs hz0 hw=>?_⟩;have hz:=zdz sn_enc h2 hz0 hw;have hz':vg Sn.en (X.flatMap (za7 c m.toNat)) zs:=⟨hz.1,λz=>(hz.2 z).trans (h3 z)⟩
     walk_at "ds";rw[List.length_append,List.length_map,List.length_singleton];have hL2:Lays c (pre ++ [m]) (lys ++ [X] ++ [zs]):=hL.snoc LA ll hz';exact⟨by lia,k _ ⟨pre ++ [m],ms,lys ++ [X],zs,_,_,_,_,rfl,by rw[List.append_assoc];exact eb,hL2,by rw[List.map_append,List.map_append];rfl⟩⟩
 ·rintro σ ⟨pre,ms,lys,L,u3,u4,u5,u6,e,eb,hL,rfl⟩
  cases ms with
  |cons m ms=>cases e
  |nil=>
   rw[List.append_nil]at eb;subst eb;exact q _ hL
 ·cases i with
  |zero=>cases h;exact LayAt.fir c
  |succ i=>simp at h
end
section
variable {P:Program}{w:World}{K:PySem.W.Frag}{mg:Str->Option Value}{base:Heap}{f:Addr}{fd:FuncData}
def zak:Option Bool->Bool
 |some true=>true
 |_=>false
def blk:Sg->Int->Bool
 |.sh u _,b=>decide (b<u)
 |_,_=>false
theorem zoj{g:Gt}{s:Sg}{b:Int}(h:blk s b=true):xf g s b true=(none,s):=by
 cases s with
 |sh u w=>
  have h:b<u:=of_decide_eq_true h;unfold xf;simp only[xg,if_pos h];rfl
 |op k=>cases h
 |tr k w=>cases h
theorem zqj{g:Gt}:∀{s:Sg}{b:Int},s.shut=false->yr (heL g s b true)=none
 |.op k,b,_=>rfl
 |.tr k w,b,_=>by simp only[heL,if_true];split <;> rfl
 |.sh u w,b,h=>nomatch h
theorem zj8{g:Gt}{s:Sg}{b:Int}(h:blk s b=false):(xf g s b true).1=some true/\yr (xf g s b true).2=none:=by
 have:(xg s b).1=true/\(xg s b).2.shut=false:=by
  cases s with
  |sh u w=>
   have h:¬ b<u:=of_decide_eq_false h;have e:xg (.sh u w) b=(true,.tr 0 w):=by simp only[xg,if_neg h]
   rw[e];exact⟨rfl,rfl⟩
  |op k=>exact⟨rfl,rfl⟩
  |tr k w=>exact⟨rfl,rfl⟩
 unfold xf;rw[if_pos this.1];exact⟨rfl,zqj this.2⟩
theorem zit{s:Sg}{b:Int}(h:yr s=none):blk s b=false:=by
 cases s with
 |sh u w=>cases h
 |_=>rfl
theorem zvh(c:Cl)(st:Sn)(g:Sg)(n b t:Int)(w:Wt):(za4 c st g n b t w).g=g:=by unfold za4;split <;> rfl
theorem zd3(c:Cl)(st:Sn)(snd:Bool)(n b t:Int):(y3 c st snd n b t).1.g=(xf c.g st.g st.b snd).2/\(y3 c st snd n b t).2.w=(xf c.g st.g st.b snd).1:=by
 unfold y3
 split
 ·next h=>exact⟨rfl,h.symm⟩
 ·exact⟨zvh _ _ _ _ _ _ _,rfl⟩
theorem zj9(c:Cl):∀(rs:List Tr) (st:Sn) (es:List Ev),blk st.g st.b=true->(yk c true rs st es).1.g=st.g/\(yk c true rs st es).1.b=st.b
 |[],st,es,_=>⟨rfl,rfl⟩
 |r::rs,st,es,h=>by
  obtain⟨t1,_⟩:=zd3 c st true r.n r.b r.t;have t2:=(ql c st true r.n r.b r.t).1;rw[zoj h]at t1;have:=zj9 c rs (y3 c st true r.n r.b r.t).1 (es ++ [(y3 c st true r.n r.b r.t).2]) (by rw[t1,t2];exact h);exact⟨by rw[yk,this.1,t1],by rw[yk,this.2,t2]⟩
theorem zg0(c:Cl):∀(rs:List Tr) (st:Sn) (es:List Ev),blk st.g st.b=false->(∀e∈es,zak e.w=true)->blk (yk c true rs st es).1.g st.b=false/\(yk c true rs st es).1.b=st.b/\∀e∈(yk c true rs st es).2,zak e.w=true
 |[],st,es,h,he=>⟨h,rfl,he⟩
 |r::rs,st,es,h,he=>by
  obtain⟨t1,t3⟩:=zd3 c st true r.n r.b r.t;have t2:=(ql c st true r.n r.b r.t).1;obtain⟨k1,k2⟩:=zj8 (g:=c.g) h;have:=zg0 c rs (y3 c st true r.n r.b r.t).1 (es ++ [(y3 c st true r.n r.b r.t).2]) (by rw[t1];exact zit k2) (λe hm=>by
   rcases List.mem_append.mp hm with hm|hm
   ·exact he e hm
   ·rw[List.mem_singleton.mp hm,t3,k1];rfl)
  rw[t2]at this;rw[yk];exact this
theorem zbz(c:Cl)(s:Sn)(snd:Bool)(m:Nat):(y8 c s snd m).1.b=s.b+1:=rfl
theorem zok(c:Cl){s:Sn}(h:blk s.g s.b=true):(y8 c s true 1).1.g=s.g/\((y8 c s true 1).2.all λe=>zak e.w)=false:=by
 have d:=zj9 c (yo s) (zy s) [] h;have e1:(zy s).g=s.g:=rfl;have e2:(zy s).b=s.b:=rfl;rw[e1,e2]at d;have t:=zd3 c (yz c (yk c true (yo s) (zy s) []).1) true s.k (yk c true (yo s) (zy s) []).1.b 0;have a1:(yz c (yk c true (yo s) (zy s) []).1).g=s.g:=d.1;have a2:(yz c (yk c true (yo s) (zy s) []).1).b=s.b:=d.2;rw[a1,a2,zoj h]at t;refine⟨t.1,?_⟩;show(((yk c true (yo s) (zy s) []).2 ++ [(y3 c (yz c (yk c true (yo s) (zy s) []).1) true s.k (yk c true (yo s) (zy s) []).1.b 0).2]).all λe=>zak e.w)=false;rw[List.all_append,List.all_cons,t.2];simp[zak]
theorem zli(c:Cl){s:Sn}(h:blk s.g s.b=false):yr (y8 c s true 1).1.g=none/\((y8 c s true 1).2.all λe=>zak e.w)=true:=by
 obtain⟨d1,d2,d3⟩:=zg0 c (yo s) (zy s) [] h (λe he=>absurd he List.not_mem_nil);have e2:(zy s).b=s.b:=rfl;rw[e2]at d1 d2;have t:=zd3 c (yz c (yk c true (yo s) (zy s) []).1) true s.k (yk c true (yo s) (zy s) []).1.b 0;have a2:(yz c (yk c true (yo s) (zy s) []).1).b=s.b:=d2;have a1:(yz c (yk c true (yo s) (zy s) []).1).g=(yk c true (yo s) (zy s) []).1.g:=rfl;rw[a1,a2]at t;obtain⟨k1,k2⟩:=zj8 (g:=c.g) d1;refine⟨by rw[<-k2];exact congrArg yr t.1,?_⟩;show(((yk c true (yo s) (zy s) []).2 ++ [(y3 c (yz c (yk c true (yo s) (zy s) []).1) true s.k (yk c true (yo s) (zy s) []).1.b 0).2]).all λe=>zak e.w)=true;rw[List.all_append,List.all_cons,t.2,k1,List.all_eq_true.mpr d3];rfl
def xn(c:Cl):Nat->Sn->Int->Int
 |0,_,f=>f
 |k+1,s,f=>xn c k (y8 c s true 1).1 (if ((y8 c s true 1).2.all λe=>zak e.w)=true then f else s.b)
theorem vn(c:Cl):∀(k:Nat) (s:Sn) (f:Int),blk s.g s.b=false->xn c k s f=f
 |0,_,_,_=>rfl
 |k+1,s,f,h=>by
  obtain⟨h1,h2⟩:=zli c h;rw[xn,if_pos h2];exact vn c k _ f (zit h1)
theorem zd4(c:Cl):∀(k:Nat) (s:Sn) (f u:Int),yr s.g=some u->s.b<u->u<=s.b+k->xn c k s f=u-1
 |0,s,f,u,_,h1,h2=>by lia
 |k+1,s,f,u,hu,h1,h2=>by
  have hb:∀b,blk s.g b=decide (b<u):=λb=>by
   cases hg:s.g with
   |sh u' w=>rw[hg]at hu;cases hu;rfl
   |op k=>rw[hg]at hu;cases hu
   |tr k w=>rw[hg]at hu;cases hu
  obtain⟨e1,e2⟩:=zok c (s:=s) (by rw[hb];exact decide_eq_true h1);rw[xn,e2,if_neg (by decide)]
  by_cases z:s.b+1<u
  ·exact zd4 c k _ _ u (by rw[e1];exact hu) (by rw[zbz];exact z) (by rw[zbz];lia)
  ·rw[vn c k _ _ (by rw[e1,zbz,hb];exact decide_eq_false z)];lia
theorem zol(c:Cl)(k:Nat)(s:Sn)(h:∀u,yr s.g=some u->u<=s.b+k):∀v,xn c k s (s.b-1)=v->s.b-1<=v/\(∀u,yr s.g=some u->u-1<=v)/\(v=s.b-1\/yr s.g=some (v+1)):=λv e=>by
 subst e
 cases hu:yr s.g with
 |none=>
  rw[vn c k s _ (zit hu)];exact⟨Int.le_refl _,λu z=>(nomatch z),.inl rfl⟩
 |some u=>
  by_cases z:s.b<u
  ·rw[zd4 c k s _ u hu z (h u hu)];exact⟨by lia,λu' e=>by cases e;exact Int.le_refl _,.inr (by rw[show u-1+1=u by lia])⟩
  ·have:blk s.g s.b=false:=by
    cases hg:s.g with
    |sh u' w=>rw[hg]at hu;cases hu;exact decide_eq_false z
    |op k=>rfl
    |tr k w=>rfl
   rw[vn c k s _ this];exact⟨Int.le_refl _,λu' e=>by cases e;lia,.inl rfl⟩
theorem zvi{g:Gt}(o:g.Ok){b:Int}{a:Bool}:∀{s:Sg},s.shut=false->∀u,yr (heL g s b a)=some u->u<=b+g.m
 |.op k,_,u,h=>by
  have:=o.m1;simp only[heL]at h
  split at h
  ·cases h
  ·split at h
   ·cases h;lia
   ·cases h
 |.tr k w,_,u,h=>by
  simp only[heL]at h
  split at h
  ·split at h <;> cases h
  ·cases h;lia
 |.sh u w,h,_,_=>nomatch h
theorem zq8{g:Gt}(o:g.Ok){s:Sg}{b:Int}{a:Bool}(hs:s.Ok g)(h:∀u,yr s=some u->u<=b+g.m):∀u,yr (xf g s b a).2=some u->u<=b+g.m:=λu hu=>by
 have lk:=ze7 o (s:=s) (b:=b) hs;unfold xf at hu
 cases z:(xg s b).1 with
 |true=>
  rw[z,if_pos rfl]at hu;exact zvi o (lk.2 z) u hu
 |false=>
  rw[z,if_neg (by decide)]at hu
  cases s with
  |sh u' w=>
   simp only[xg]at hu z
   split at z
   ·next c=>rw[if_pos c]at hu;exact h u hu
   ·cases z
  |op k=>cases z
  |tr k w=>cases z
theorem zom{c:Cl}(o:c.Ok){snd:Bool}{B:Int}:∀(rs:List Tr) (st:Sn) (es:List Ev),(∀r∈rs,r.Ok c)->st.Ok c->st.b=B->(∀u,yr st.g=some u->u<=B+c.g.m)->∀u,yr (yk c snd rs st es).1.g=some u->u<=B+c.g.m
 |[],_,_,_,_,_,h=>h
 |r::rs,st,es,hr,ho,hb,h=>by
  obtain⟨h1,h2⟩:=hr r List.mem_cons_self;rw[yk];refine zom o rs _ _ (λx hx=>hr x (List.mem_cons_of_mem _ hx)) (qm o ho h1 h2) ((ql c st snd r.n r.b r.t).1.trans hb) ?_;rw[(zd3 c st snd r.n r.b r.t).1,<-hb];exact zq8 o.g ho.g (by rw[hb];exact h)
theorem zon{c:Cl}(o:c.Ok){snd:Bool}{B:Int}:∀(m:Nat) (n:Int) (st:Sn) (es:List Ev),st.Ok c->st.b=B->(∀u,yr st.g=some u->u<=B+c.g.m)->∀u,yr (xq c snd m n st es).1.g=some u->u<=B+c.g.m
 |0,_,_,_,_,_,h=>h
 |m+1,n,st,es,ho,hb,h=>by
  have n1:=o.p.n1;rw[xq];refine zon o m _ _ _ (qm o (za5 o ho) (by decide) (by lia)) ((ql c (yz c st) snd n st.b 0).1.trans hb) ?_;rw[(zd3 c (yz c st) snd n st.b 0).1,<-hb];exact zq8 (s:=st.g) o.g ho.g (by rw[show(yz c st).b=st.b from rfl,hb];exact h)
theorem zqk{c:Cl}(o:c.Ok){st:Sn}(P:Pa c st){snd:Bool}{m:Nat}(h:∀u,yr st.g=some u->u<=st.b+c.g.m):∀u,yr (y8 c st snd m).1.g=some u->u<=(y8 c st snd m).1.b-1+c.g.m:=λu hu=>by
 have os:=P.ok;have os0:(zy st).Ok c:=⟨os.b1,os.b2,λe he=>os.w e (List.mem_filter.mp he).1,os.c1,os.c2,os.g⟩
 have hdue:∀r∈yo st,r.Ok c:=λr hr=>by
  rw[ze9 P]at hr;obtain⟨e,he,rfl⟩:=List.mem_map.mp hr;have:=os.w e (List.mem_filter.mp he).1;exact⟨by have:=this.t1;simp only[];lia,this.t2⟩
 obtain⟨p1,p2,_⟩:=zby o (snd:=snd) (yo st) (zy st) [] hdue os0;have h1:=zom o (snd:=snd) (B:=st.b) (yo st) (zy st) [] hdue os0 rfl h;have:=zon o (snd:=snd) (B:=st.b) m st.k (yk c snd (yo st) (zy st) []).1 (yk c snd (yo st) (zy st) []).2 p1 p2 h1 u hu;rw[zbz];lia
theorem zg1{c:Cl}(o:c.Ok):∀(bs:List Int) (L:List Sn) (j:Int),(∀b∈bs,0<=b/\b<=3)->j+bs.length<=100->(∀s∈L,Gs c j s/\∀u,yr s.g=some u->u<=s.b-1+c.g.m)->∀s∈reach c bs L,∀u,yr s.g=some u->u<=s.b-1+c.g.m
 |[],L,j,_,_,h,s,hs=>(h s hs).2
 |m::ms,L,j,hb,hj,h,s,hs=>by
  rw[List.length_cons]at hj;have h0:=hb m List.mem_cons_self;refine zg1 o ms (L.flatMap (za7 c m.toNat)) (j+1) (λb hb'=>hb b (List.mem_cons_of_mem _ hb')) (by lia) (λx hx=>?_) s hs;obtain⟨y,hy,hxy⟩:=List.mem_flatMap.mp hx;obtain⟨b,_,rfl⟩:=List.mem_map.mp hxy;obtain⟨g,ug⟩:=h y hy;exact⟨g.step o (by lia) b (by omega),zqk o g.pa λu hu=>by have:=ug u hu;(clear hj h0;lia)⟩
theorem LayAt.ug{c:Cl}(o:c.Ok){bs:List Int}{L:List Sn}(h:LayAt c bs L)(hb:∀b∈bs,0<=b/\b<=3)(hl:bs.length<=8):∀s∈L,∀u,yr s.g=some u->u<=s.b-1+c.g.m:=λs hs=>
 zg1 o bs [k7 c] 0 hb (by lia) (λx hx=>by rw[List.mem_singleton.mp hx];exact⟨Gs.fir o,λu hu=>nomatch hu⟩) s ((h.2 s).mp hs)
theorem zoo(c:Cl)(bs:List Int):reach c bs [k7 c] ≠ []:=λh=>by
 have:=vb c bs [k7 c];rw[h]at this;have p:0<2 ^ bs.length:=Nat.pow_pos (by decide);simp at this;lia
theorem zlj{c:Cl}(o:c.Ok){bs:List Int}(bg:Bg bs){L:List Sn}(h:LayAt c bs L)(k:Nat)(hk:c.g.m<=k){M:Int}(hm:M∈L.map λs=>xn c k s (s.b-1))(hx:∀a∈L.map λs=>xn c k s (s.b-1),a<=M):qt c bs (1+M):=by
 have gs:=h.gs o bg.lo bg.ln;have ug:=h.ug o bg.lo bg.ln;have one:∀s∈L,(bs.length:Int)-1<=xn c k s (s.b-1)/\(∀u,yr s.g=some u->u-1<=xn c k s (s.b-1))/\(xn c k s (s.b-1)=bs.length-1\/yr s.g=some (xn c k s (s.b-1)+1)):=λs hs=>by
  have:=zol c k s (λu hu=>by have:=ug s hs u hu;lia) _ rfl;have b:=(gs s hs).b;rw[b]at this
  rwa [b]
 have up:∀s∈L,xn c k s (s.b-1)<=M:=λs hs=>hx _ (List.mem_map.mpr ⟨s,hs,rfl⟩);obtain⟨s0,hs0,e0⟩:=List.mem_map.mp hm;refine⟨?_,λs hs u hu=>?_,?_⟩
 ·have h1:=(one s0 hs0).1;have h2:=up s0 hs0;lia
 ·have hs:=(h.2 s).mpr hs;have h1:=(one s hs).2.1 u hu;have h2:=up s hs;(clear hk e0;omega)
 ·rcases (one s0 hs0).2.2 with e|e
  ·exact .inl (by lia)
  ·refine .inr ⟨s0,(h.2 s0).mp hs0,?_⟩;rw[e,<-e0];congr 1;lia
end
section
variable {P:Program}{w:World}{K:PySem.W.Frag}{mg:Str->Option Value}{base:Heap}{f:Addr}{fd:FuncData}
theorem zka:∀xs:List D,(∀d∈xs,∃w,d=wdE w)->PyData.canLayAll0 xs=true/\PyData.depthAll xs<=1
 |[],_=>⟨rfl,by simp[PyData.depthAll]⟩
 |d::xs,h=>by
  obtain⟨h1,h2⟩:=zka xs λx hx=>h x (List.mem_cons_of_mem _ hx);obtain⟨w,rfl⟩:=h d List.mem_cons_self;have hw:(wdE w).canLay0=true/\(wdE w).depth<=1:=by
   cases w with
   |none=>exact⟨by simp only[wdE,PyData.canLay0];decide +kernel,by simp[wdE,PyData.depth]⟩
   |some b=>cases b <;> exact⟨by simp only[wdE,PyData.canLay0];decide +kernel,by simp[wdE,PyData.depth]⟩
  exact⟨by rw[PyData.canLayAll0,hw.1,h1];rfl,by rw[PyData.depthAll];lia⟩
theorem zop{xs:List D}(h:∀d∈xs,∃w,d=wdE w):Lay (.list xs):=by
 obtain⟨h1,h2⟩:=zka xs h;show SeqAt.shaped _=true;unfold SeqAt.shaped;rw[PyData.canLay0,h1,PyData.depth];simp;lia
theorem zql{es:List Ev}:∀d∈es.filterMap (λe=>if zak e.w=true then none else some (wdE e.w)),∃w,d=wdE w:=λd hd=>by
 obtain⟨e,_,h⟩:=List.mem_filterMap.mp hd
 split at h
 ·cases h
 ·exact⟨e.w,(Option.some.inj h).symm⟩
theorem zqm(es:List Ev):(PyData.list (es.filterMap λe=>if zak e.w=true then none else some (wdE e.w))).eqv (.list [])=es.all λe=>zak e.w:=by
 induction es with
 |nil=>rfl
 |cons e es ih=>
  rw[List.filterMap_cons,List.all_cons]
  cases z:zak e.w with
  |true=>simp only[if_true,Bool.true_and];exact ih
  |false=>simp only[Bool.false_eq_true,if_false,Bool.false_and];rfl
def qu:DSp:=λws Q=>∃(c:Cl) (s:Sn) (k:Nat),ws = [.val c.D,.val s.D,.val (.int k)]/\c.Ok/\Pa c s/\s.w.length+k<=900/\s.b+k<=800000/\Q (.val (.int (xn c k s (s.b-1))))
theorem zcw(B:Blt mg)(F:Fun K "_law_latest" "_law_latest" wv f fd)(C__law_step:Cal P w K mg base 3 "_law_step" ["_law_caller_here", "_law_standing", "_law_sound", "_law_many"] (ye K vm)):FnOk P w K mg base CX0 4 f fd ["_law_caller_here", "_law_standing", "_law_beats"] (ye K qu):=by
 refine F.dok sc__law_latest (λws Q h=>?_) (λcdv A outer s H ws Q E hr h=>?_)
 ·obtain⟨c,s,k,rfl,_⟩:=h;rfl
 obtain⟨c,s,k,rfl,o,pa,hw,hb,q⟩:=h;refine⟨_,(zd (yc (i:=3) sc__law_latest.nd rfl (Or.inl rfl) (zp zfr (DE.dv (zm (zc 1) zb (λ_ _=>rfl))) (DE.dv zb))) (zd (wn PassesOwn.never rfl (kh rfl B.range (za (zg 2) zi)) (zf (i:=4) sc__law_latest.nd rfl (Or.inl rfl)) (zd (yc (i:=5) sc__law_latest.nd rfl (Or.inl rfl) (zm (zc 1) zb (λ_ _=>rfl))) (zd (yu (zn C__law_step hr rfl (zj 0 (zj 1 (z7 xx (z7 zb zr yg) yg)))) (yq (n:=2) rfl (ze (zf (i:=1) sc__law_latest.nd rfl (Or.inl rfl)) (ze (zf (i:=6) sc__law_latest.nd rfl (Or.inl rfl)) yf)))) (zh (yp (yb (zhj hr) (DE.dv (DF.de (zb4 rfl (N':=["_law_number", "_law_word", "_law_what"]) (capt:=[]) (k:=3) (js:=[]) ⟨rfl,by decide,rfl,by decide,.nil,rfl,.nil,rfl,by decide⟩ (wk (zc 6)) (λ_ _ _ _=>(yq (n:=3) rfl (ze (zf (i:=0) (show List.Nodup (["_law_number", "_law_word", "_law_what"]:List Str) by decide +kernel) rfl (Or.inl rfl) (Or.inr rfl)) (ze (zf (i:=1) (show List.Nodup (["_law_number", "_law_word", "_law_what"]:List Str) by decide +kernel) rfl (Or.inl rfl) (Or.inr rfl)) (ze (zf (i:=2) (show List.Nodup (["_law_number", "_law_word", "_law_what"]:List Str) by decide +kernel) rfl (Or.inl rfl) (Or.inr rfl)) yf))))) (λ_ _ _ _=>(ki (yb (zhj hr) (zc 1) (DE.dv yn) (z0 _)))) (λ_ _ _ _=>(zg 1))))) (DE.dv (DF.de (x4 zi))) (z0 _)) (zh (yc (i:=3) sc__law_latest.nd rfl (Or.inl rfl) (zg 5))) ya))))) (zh (zu (zg 3))))),?_⟩;simp only[Sn.D];walk_at "ds";refine⟨_,zw _ _,?_⟩;walk_at "ds";refine⟨⟨by lia,by lia⟩,?_⟩;refine xa (λds σ=>∃(i j:Nat) (s':Sn) (f:Int) (u4 u5 u6:Option W),ds=y0 (i:Nat) j/\i+j=k/\Pa c s'/\s'.w.length+j<=900/\s'.b+j<=800000/\xn c j s' f=xn c k s (s.b-1)/\σ = [some (.val c.D),some (.val s'.D),some (.val (.int k)),some (.val (.int f)),u4,u5,u6]) ?_ ?_ ⟨0,k,s,s.b-1,_,_,_,by rw[Int.toNat_natCast];rfl,by lia,pa,hw,hb,rfl,rfl⟩
 ·rintro d ds σ N ⟨i,j,s',f,u4,u5,u6,e,hij,pa',hw',hb',ef,rfl⟩ k2
  cases j with
  |zero=>cases e
  |succ j=>
   rw[xk]at e
   cases e;obtain⟨p1,p2,p3,p4,p5⟩:=zj4 o pa' (by (clear hb hw' ef;lia)) true 1;rw[xn]at ef;simp only[Sn.D];walk_at "ds";refine⟨_,zw _ _,?_⟩;walk_at "ds";refine⟨c,s',true,1,rfl,o,pa',by (clear hb ef p2 p3 p5;lia),by decide,?_⟩;generalize y8 c s' true 1=r at p1 p2 p3 p4 p5 ef ⊢;simp only[stD];walk_at "ds";rw[List.length_map];refine⟨by (clear hb p2 p3 p4 ef;lia),kj Ev.D (λe=>if zak e.w=true then none else some (wdE e.w)) (λe _ K hk=>?_) ?_⟩
   ·simp only[Ev.D]
    cases z:e.w with
    |none=>
     rw[z]at hk;simp only[wdE];walk_at "ds";rw[if_pos zn7];exact hk
    |some b=>
     rw[z]at hk
     cases b with
     |true=>
      simp only[wdE];walk_at "ds";rw[if_neg (not_not_intro trivial)];exact hk
     |false=>
      simp only[wdE];walk_at "ds";rw[if_pos zn8];exact hk
   walk_at "ds";refine⟨zop zql,zop (xs:=[]) (λd h=>absurd h List.not_mem_nil),?_⟩;rw[zqm]
   cases z:r.2.all λe=>zak e.w with
   |true=>
    rw[z,if_pos rfl]at ef;rw[if_neg (by decide)];exact k2 _ ⟨i+1,j,r.1,f,_,_,_,rfl,by (clear hw hb hw' hb' p2 p3 p4 p5 ef;omega),p1,by (clear hw hb hij hb' p2 p3 p5 ef;lia),by (clear hw hb hij hw' p4 p5 ef;lia),ef,rfl⟩
   |false=>
    rw[z,if_neg (by decide)]at ef;rw[if_pos rfl];exact k2 _ ⟨i+1,j,r.1,s'.b,_,_,_,rfl,by (clear hw hb hw' hb' p2 p3 p4 p5 ef;omega),p1,by (clear hw hb hij hb' p2 p3 p5 ef;lia),by (clear hw hb hij hw' p4 p5 ef;lia),ef,rfl⟩
 ·rintro σ ⟨i,j,s',f,u4,u5,u6,e,hij,pa',hw',hb',ef,rfl⟩
  cases j with
  |succ j=>rw[xk]at e;cases e
  |zero=>
   rw[<-ef]at q;exact q
end
section
variable {P:Program}{w:World}{K:PySem.W.Frag}{mg:Str->Option Value}{base:Heap}{f:Addr}{fd:FuncData}
theorem zq9{i:Int}(h : -10000000<=i)(h2:i<=10000000):Sh (.int i) 41 0:=Sh.intB (by lia) (by lia)
theorem zoq{n k:Nat}:∀{x:D}{xs:List D},Sh x n k->(∀y∈xs,Sh y n k)->∀y∈x::xs,Sh y n k:=λh hs y hy=>by
 rcases List.mem_cons.mp hy with rfl|hy
 ·exact h
 ·exact hs y hy
theorem zvj{n k:Nat}:∀y∈([]:List D),Sh y n k:=λy hy=>nomatch hy
def qv:DSp:=λws Q=>ws = [.pen]/\∀c:Cl,c.Ok->c.g.m<=5->Q (.val c.D)
theorem zcx(B:Blt mg)(F:Fun K "_law_caller" "_law_caller" wu f fd)(C__law_draw:Cal P w K mg base 2 "_law_draw" ["_law_pen", "_law_many"] (ye K xo)):FnOk P w K mg base CX0 3 f fd ["_law_pen"] (ye K qv):=by
 refine F.dok sc__law_caller (λws Q h=>?_) (λcdv A outer s H ws Q E hr h=>?_)
 ·obtain⟨rfl,_⟩:=h;rfl
 obtain⟨rfl,q⟩:=h;refine⟨_,(zd (yc (i:=1) sc__law_caller.nd rfl (Or.inl rfl) (zo (za (zp z6 (DE.dv zb) (DE.dv (zn C__law_draw hr rfl (zj 0 (z7 zb zr yg))))) (za (zp z6 (DE.dv zb) (DE.dv (zn C__law_draw hr rfl (zj 0 (z7 zb zr yg))))) (za (zn C__law_draw hr rfl (zj 0 (z7 zb zr yg))) (za (zp z6 (DE.dv zb) (DE.dv (zn C__law_draw hr rfl (zj 0 (z7 zb zr yg))))) zi)))))) (zd (yc (i:=2) sc__law_caller.nd rfl (Or.inl rfl) (zo (za (zg 1) (za (zp z6 (DE.dv zb) (DE.dv (zn C__law_draw hr rfl (zj 0 (z7 zb zr yg))))) (za (zn C__law_draw hr rfl (zj 0 (z7 zb zr yg))) zi))))) (zd (zsw (i:=3) (j:=4) rfl sc__law_caller.nd rfl rfl (by decide) rfl rfl (za (zn C__law_draw hr rfl (zj 0 (z7 zb zr yg))) (za (zp z6 (DE.dv zb) (DE.dv (zn C__law_draw hr rfl (zj 0 (z7 zb zr yg))))) zi)) rfl) (zd (yc (i:=5) sc__law_caller.nd rfl (Or.inl rfl) (zo (za (zn C__law_draw hr rfl (zj 0 (z7 zb zr yg))) (za (zp z6 (DE.dv zb) (DE.dv (zn C__law_draw hr rfl (zj 0 (z7 zb zr yg))))) (za (zg 3) (za (zn C__law_draw hr rfl (zj 0 (z7 (zp z6 (zc 3) (DE.dv zb)) zr))) zi)))))) (zd (yc (i:=6) sc__law_caller.nd rfl (Or.inl rfl) (zo (za (zp z6 (DE.dv zb) (DE.dv (zn C__law_draw hr rfl (zj 0 (z7 zb zr yg))))) (za (zg 4) (za (zp z6 (DE.dv zb) (DE.dv (zn C__law_draw hr rfl (zj 0 (z7 zb zr yg))))) (za (zp z6 (zc 4) (DE.dv (zn C__law_draw hr rfl (zj 0 (z7 zb zr yg))))) (za (zp z6 (DE.dv zb) (DE.dv (zn C__law_draw hr rfl (zj 0 (z7 zb zr yg))))) zi))))))) (zh (zu (zo (za (zg 2) (za (zg 5) (za (zg 6) zi))))))))))),?_⟩;walk_at "ds";refine xi (by first|decide|omega) (by first|decide|omega) λg1 lg1 hg1=>?_;walk_at "ds";refine xi (by first|decide|omega) (by first|decide|omega) λg2 lg2 hg2=>?_;walk_at "ds";refine xi (by first|decide|omega) (by first|decide|omega) λg3 lg3 hg3=>?_;walk_at "ds";refine xi (by first|decide|omega) (by first|decide|omega) λg4 lg4 hg4=>?_;walk_at "ds";refine xi (by first|decide|omega) (by first|decide|omega) λkn lkn hkn=>?_;walk_at "ds";refine xi (by first|decide|omega) (by first|decide|omega) λtm ltm htm=>?_;walk_at "ds"
 refine xi (by first|decide|omega) (by first|decide|omega) λcp lcp hcp=>?_;walk_at "ds";refine xi (by first|decide|omega) (by first|decide|omega) λrs lrs hrs=>?_;walk_at "ds";refine xi (by first|decide|omega) (by first|decide|omega) λpa lpa hpa=>?_;walk_at "ds";refine xi (by first|decide|omega) (by first|decide|omega) λpr lpr hpr=>?_;walk_at "ds";refine xi (by first|decide|(clear lg1 hg1 lg2 hg2 lg3 hg3 lg4 hg4 lkn hkn ltm htm;lia)) (by first|decide|(clear lg1 hg1 lg2 hg2 lg3 hg3 lg4 hg4 lkn hkn ltm htm;lia)) λfi lfi hfi=>?_;walk_at "ds";refine xi (by first|decide|omega) (by first|decide|omega) λfa lfa hfa=>?_;walk_at "ds";refine xi (by first|decide|omega) (by first|decide|omega) λti lti hti=>?_;walk_at "ds";refine xi (by first|decide|omega) (by first|decide|omega) λmo lmo hmo=>?_;walk_at "ds";refine xi (by first|decide|omega) (by first|decide|omega) λtr ltr htr=>?_;walk_at "ds";exact q ⟨⟨⟨1+g1,1+g2,g3,1+g4⟩,1+kn,tm⟩,⟨pa,1+pr,cp,fi⟩,⟨1+fa,1+rs,1+ti,1+rs+mo,1+tr⟩⟩ ⟨⟨⟨by simp only[];lia,by simp only[];lia,by simp only[];lia,by simp only[];lia,by simp only[];omega,by simp only[];(clear lg1 hg1 lg2 hg2;lia),by simp only[];(clear lg1 hg1 lg2 hg2 lg3 hg3;lia),by simp only[];(clear lg1 hg1 lg2 hg2 lg3 hg3;lia)⟩,by simp only[];(clear lg1 hg1 lg2 hg2 lg3 hg3 lg4 hg4;lia),by simp only[];(clear lg1 hg1 lg2 hg2 lg3 hg3 lg4 hg4;lia),by simp only[];omega,by simp only[];(clear lg1 hg1 lg2 hg2 lg3 hg3 lg4 hg4 lkn hkn;lia)⟩,by simp only[];(clear lg1 hg1 lg2 hg2 lg3 hg3 lg4 hg4 lkn hkn;lia),⟨by simp only[];omega,by simp only[];(clear lg1 hg1 lg2 hg2 lg3 hg3 lg4 hg4 lkn hkn ltm htm lcp hcp lrs hrs;lia),by simp only[];(clear lg1 hg1 lg2 hg2 lg3 hg3 lg4 hg4 lkn hkn ltm htm lcp hcp lrs hrs lpa hpa;lia),by simp only[];(clear lg1 hg1 lg2 hg2 lg3 hg3 lg4 hg4 lkn hkn ltm htm lcp hcp lrs hrs lpa hpa;lia),by simp only[];omega,by simp only[];(clear lg1 hg1 lg2 hg2 lg3 hg3 lg4 hg4 lkn hkn ltm htm;lia),by simp only[];omega,by simp only[];(clear lg1 hg1 lg2 hg2 lg3 hg3 lg4 hg4 lkn hkn ltm htm lrs hrs lpa hpa lpr hpr;lia)⟩,⟨by simp only[];(clear lg1 hg1 lg2 hg2 lg3 hg3 lg4 hg4 lkn hkn ltm htm lcp hcp lrs hrs lpa hpa lpr hpr lfi hfi;lia),by simp only[];(clear lg1 hg1 lg2 hg2 lg3 hg3 lg4 hg4 lkn hkn ltm htm lcp hcp lrs hrs lpa hpa lpr hpr lfi hfi;lia),by simp only[];(clear lg1 hg1 lg2 hg2 lg3 hg3 lg4 hg4 lkn hkn ltm htm lcp hcp;lia),by simp only[];(clear lg1 hg1 lg2 hg2 lg3 hg3 lg4 hg4 lkn hkn ltm htm lcp hcp lrs hrs lpa hpa lpr hpr lfi hfi lfa hfa;lia),by simp only[];(clear lg1 hg1 lg2 hg2 lg3 hg3 lg4 hg4 lkn hkn ltm htm lcp hcp lrs hrs lpa hpa lpr hpr lfi hfi lfa hfa;lia),by simp only[];(clear lg1 hg1 lg2 hg2 lg3 hg3 lg4 hg4 lkn hkn ltm htm lcp hcp lpa hpa lpr hpr lfi hfi lfa hfa lti hti;lia),by simp only[];(clear lg1 hg1 lg2 hg2 lg3 hg3 lg4 hg4 lkn hkn ltm htm lcp hcp lpa hpa lpr hpr lfi hfi lfa hfa lti hti;lia),by simp only[];(clear lg1 hg1 lg2 hg2 lg3 hg3 lg4 hg4 lkn hkn ltm htm lcp hcp lrs hrs lpa hpa lpr hpr lfi hfi lfa hfa lti hti lmo hmo;lia),by simp only[];(clear lg1 hg1 lg2 hg2 lg3 hg3 lg4 hg4 lkn hkn ltm htm lcp hcp lrs hrs lpa hpa lpr hpr lfi hfi lfa hfa lti hti lmo hmo;lia)⟩⟩ (by simp only[];(clear lg1 hg1 lg2 hg2 lg3 hg3 lg4 hg4 lkn hkn ltm htm lcp hcp lpa hpa lpr hpr lfi hfi lfa hfa lti hti;lia))
theorem ztv(B:Blt mg)(F:Fun K "law" "law" zn3 f fd)(C_calm_from:Cal P w K mg base 7 "calm_from" ["caller", "beginnings"] (ye K zaj))(C__law_cell_at:Cal P w K mg base 1 "_law_cell_at" ["_law_script", "_law_k"] (ye K vx))(C__law_pen_of:Cal P w K mg base 1 "_law_pen_of" ["_law_cell"] (ye K qj))(C__law_draw:Cal P w K mg base 2 "_law_draw" ["_law_pen", "_law_many"] (ye K xo))(C__law_caller:Cal P w K mg base 3 "_law_caller" ["_law_pen"] (ye K qv))(C__law_every:Cal P w K mg base 4 "_law_every" ["_law_caller_here", "_law_beginnings"] (ye K ja))(C__law_latest:Cal P w K mg base 4 "_law_latest" ["_law_caller_here", "_law_standing", "_law_beats"] (ye K qu)):FnOk P w K mg base CX0 8 f fd ["_law_script"] (ye K ze6):=by
 refine F.dok sc_law (λws Q h=>?_) (λcdv A outer s H ws Q E hr h=>?_)
 ·obtain⟨ns,rfl,_⟩:=h;rfl
 obtain⟨ns,rfl,h63,q⟩:=h;refine⟨_,(zd (wn PassesOwn.never rfl (v6 (zp z6 (DE.dv (DF.de (x4 (za (zn C__law_cell_at hr rfl (zj 0 (z7 zb zr yg))) zi)))) (DE.dv (DF.de (zsr 0 (zbo zb) (zbo zb)))))) (zf (i:=1) sc_law.nd rfl (Or.inl rfl)) (zd (zpm (i:=2) sc_law.nd rfl (Or.inr rfl) (zpj C__law_pen_of hr rfl (zj 1 zr))) (zd (yu (zn C__law_caller hr rfl (zj 2 zr)) (yq (n:=3) rfl (ze (zf (i:=3) sc_law.nd rfl (Or.inl rfl)) (ze (zf (i:=4) sc_law.nd rfl (Or.inl rfl)) (ze (zf (i:=5) sc_law.nd rfl (Or.inr rfl)) yf))))) (zd (yc (i:=6) sc_law.nd rfl (Or.inl rfl) (xt kg rfl B.tupleT boot_tuple (zt (DE.dv (DF.de (zb4 rfl (N':=["_law_beat", "_law_pen"]) (capt:=["_law_pen"]) (k:=1) (js:=[2]) ⟨rfl,by decide,rfl,by decide,(.cons rfl .nil),rfl,(.cons rfl (Or.inl rfl) rfl (Or.inl rfl) .nil),rfl,by decide⟩ (DI.w (kh rfl B.range (za (zp z6 (DE.dv zb) (DE.dv (zn C__law_draw hr rfl (zj 2 (z7 zb zr yg))))) zi))) (λ_ _ _ _=>(zf (i:=0) (show List.Nodup (["_law_beat", "_law_pen"]:List Str) by decide +kernel) rfl (Or.inl rfl) (Or.inr rfl))) (λ_ _ _ _=>j5) (λ_ _ _ _=>(zn C__law_draw hr rfl (zj 1 (z7 zb zr yg))))))) yi))) (zd (yc (i:=7) sc_law.nd rfl (Or.inl rfl) (zm (DE.dv (DF.de (x4 (za zb (za (zn C__law_draw hr rfl (zj 2 (z7 zb zr yg))) zi) yg)))) (zn C__law_draw hr rfl (zj 2 (z7 zb zr yg))) (λ_ _=>rfl))) (zd (yc (i:=5) sc_law.nd rfl (Or.inr rfl) (zo (za (zm (zc 5) zb (λ_ _=>rfl)) (za (zp z6 (DE.dv (zm (zc 5) zb (λ_ _=>rfl))) (zc 7)) (za (zm (zc 5) zb (λ_ _=>rfl)) (za (zp z6 (DE.dv (zp z6 (DE.dv (zm (zc 5) zb (λ_ _=>rfl))) (zc 7))) (DE.dv (zn C__law_draw hr rfl (zj 2 (z7 zb zr yg))))) (za (zm (zc 5) zb (λ_ _=>rfl)) zi))))))) (zd (yc (i:=8) sc_law.nd rfl (Or.inr rfl) (zo (za (zg 3) (za (zg 4) (za (zg 5) zi))))) (zd (yc (i:=9) sc_law.nd rfl (Or.inl rfl) (zm (DE.dv (zn C__law_every hr rfl (zj 8 (zj 6 zr)))) (jf zb) (λ_ _=>rfl))) (zd (yc (i:=10) sc_law.nd rfl (Or.inl rfl) (zp z6 (DE.dv zb) (DE.dv (yx (zmw rfl) rfl B.max boot_max (zt (DE.dv (DF.de (zb4 rfl (N':=["_law_standing", "_law_caller_here", "_law_gate"]) (capt:=["_law_caller_here", "_law_gate"]) (k:=1) (js:=[8,5]) ⟨rfl,by decide,rfl,by decide,(.cons rfl (.cons rfl .nil)),rfl,(.cons rfl (Or.inl rfl) rfl (Or.inl rfl) (.cons rfl (Or.inl rfl) rfl (Or.inl rfl) .nil)),rfl,by decide⟩ (wk (zc 9)) (λ_ _ _ _=>(zf (i:=0) (show List.Nodup (["_law_standing", "_law_caller_here", "_law_gate"]:List Str) by decide +kernel) rfl (Or.inl rfl) (Or.inr rfl))) (λ_ _ _ _=>j5) (λ_ _ _ _=>(zn C__law_latest hr rfl (zj 1 (zj 0 (z7 (zp z6 (DE.dv (zm (zc 2) zb (λ_ _=>rfl))) (DE.dv zb)) zr)))))))) yi))))) (zh (yp (yb (zhj hr) (DE.dv (zfz hr rfl B.repr boot_repr (j7 (DE.dn (zp jz (DE.dv (DF.de (x4 (za (zn C_calm_from hr rfl (zj 8 (zj 6 zr))) zi)))) (DE.dv zb))) zen))) (DE.dv (zfz hr rfl B.repr boot_repr (j7 (zs2 (j7 (zmu 10) (j7 (zmu 10) zen))) zen zr9))) (z0 _)) (zh (zu xx)) ya))))))))))) (zh (zu xx))),?_⟩
 walk_at "ds";refine⟨ns,0,rfl,by decide,λv=>?_⟩;obtain⟨ys,ey,_,hy⟩:=zht PyData.int ns (some 1) (some 2);rw[ey,List.length_map];refine⟨by lia,?_⟩;walk_at "ds";refine xa (λds σ=>∃(vs:List Int) (u1 u2 u3 u4 u5 u6 u7 u8 u9 u10:Option W),ds=vs.map PyData.int/\σ = [some (.scr ns),u1,u2,u3,u4,u5,u6,u7,u8,u9,u10]) ?_ ?_ ⟨v::ys,none,none,none,none,none,none,none,none,none,none,rfl,rfl⟩
 ·rintro d ds σ N ⟨vs,u1,u2,u3,u4,u5,u6,u7,u8,u9,u10,e,rfl⟩ k
  cases vs with
  |nil=>cases e
  |cons v vs=>
   cases e;refine dseq_by (λσ=>σ = [some (.scr ns),some (.val (.int v)),some .pen,u3,u4,u5,u6,u7,u8,u9,u10]) (λN' hN=>?_) ?_
   ·walk_at "ds";refine⟨_,rfl,λa b c=>?_⟩;walk_at "ds";exact⟨⟨a,b,c,rfl⟩,hN _ rfl⟩
   rintro σ rfl;refine dseq_by (λσ=>∃c:Cl,c.Ok/\c.g.m<=5/\σ = [some (.scr ns),some (.val (.int v)),some .pen,some (.val c.p.D),some (.val c.u.D),some (.val c.g.D),u6,u7,u8,u9,u10]) (λN' hN=>?_) ?_
   ·walk_at "ds";refine⟨rfl,λc co cm=>?_⟩;simp only[Cl.D];walk_at "ds";exact hN _ ⟨c,co,cm,rfl⟩
   rintro σ ⟨c0,co,cm,rfl⟩;refine dseq_by (λσ=>∃bs:List Int,Bg bs/\σ = [some (.scr ns),some (.val (.int v)),some .pen,some (.val c0.p.D),some (.val c0.u.D),some (.val c0.g.D),some (.val (.tuple (bs.map PyData.int))),u7,u8,u9,u10]) (λN' hN=>?_) ?_
   ·walk_at "ds";refine xi (by first|decide|omega) (by first|decide|omega) λn ln hn=>?_;walk_at "ds";rw[zb5];refine⟨by (clear h63 hy cm;lia),by (clear h63 hy cm;lia),zhs (λy=>∃b:Int,y=.int b/\0<=b/\b<=3) (λd k hk=>?_) λys hl hy=>?_⟩
    ·walk_at "ds";refine xi (by first|decide|omega) (by first|decide|omega) λb lb hb=>?_;walk_at "ds";exact hk _ ⟨b,rfl,lb,by (clear h63 hy cm ln hn;lia)⟩
    ·obtain⟨bs,rfl,hb⟩:=zja hy;rw[List.length_map]at hl;walk_at "ds";exact hN _ ⟨bs,⟨hb,by lia⟩,rfl⟩
   rintro σ ⟨bs,bg,rfl⟩;refine dseq_by (λσ=>∃mo:Int,0<=mo/\mo<=29/\σ = [some (.scr ns),some (.val (.int v)),some .pen,some (.val c0.p.D),some (.val c0.u.D),some (.val c0.g.D),some (.val (.tuple (bs.map PyData.int))),some (.val (.int mo)),u8,u9,u10]) (λN' hN=>?_) ?_
   ·walk_at "ds";refine xi (by first|decide|omega) (by first|decide|omega) λx lx hx=>?_;walk_at "ds";refine xi (by first|decide|omega) (by first|decide|omega) λy ly hy=>?_;walk_at "ds";refine zu5 (ns:=[0,x]) (lo:=0) (hi:=29) (by omega) (by simp only[List.length_cons,List.length_nil];omega) (by intro z hz;simp only[List.mem_cons,List.not_mem_nil,or_false]at hz;lia) λmo lmo hmo=>?_;walk_at "ds";exact hN _ ⟨mo,by omega,by omega,rfl⟩
   rintro σ ⟨mo,hm0,hm1,rfl⟩;refine dseq_by (λσ=>∃c:Cl,c.Ok/\c.g.m<=50/\σ = [some (.scr ns),some (.val (.int v)),some .pen,some (.val c.p.D),some (.val c.u.D),some (.val c.g.D),some (.val (.tuple (bs.map PyData.int))),some (.val (.int mo)),u8,u9,u10]) (λN' hN=>?_) ?_
   ·simp only[Gt.D];walk_at "ds";refine⟨_,zw _ _,_,ym _ _ _,?_⟩;walk_at "ds";refine⟨_,xw _ _ _ _,_,xh _ _ _ _ _,?_⟩;walk_at "ds";refine xi (by first|decide|omega) (by first|decide|omega) λz lz hz=>?_;walk_at "ds";have o:=co.g;refine⟨_,zfy _ _ _ _ _ _,hN _ ⟨{ c0 with g:=⟨c0.g.f,c0.g.r+mo,c0.g.t,c0.g.m+mo+z,c0.g.n⟩ },⟨co.p,co.t,co.u,⟨o.f1,o.f2,?_,o.t1,o.t2,?_,?_,o.n1,o.n2⟩⟩,?_,rfl⟩⟩
    ·have:=o.r1;show 1<=c0.g.r+mo;(clear h63 hy cm lz hz;lia)
    ·have:=o.m1;show c0.g.r+mo<=c0.g.m+mo+z;(clear h63 hy;lia)
    ·show c0.g.m+mo+z<=1000;(clear h63 hy;lia)
    ·show c0.g.m+mo+z<=50;(clear h63 hy;lia)
   rintro σ ⟨c,cok,cm5,rfl⟩;refine dseq_by (λσ=>σ = [some (.scr ns),some (.val (.int v)),some .pen,some (.val c.p.D),some (.val c.u.D),some (.val c.g.D),some (.val (.tuple (bs.map PyData.int))),some (.val (.int mo)),some (.val c.D),u9,u10]) (λN' hN=>?_) ?_
   ·walk_at "ds";exact hN _ rfl
   rintro σ rfl;have ln:=bg.ln;refine dseq_by (λσ=>∃L,LayAt c bs L/\σ = [some (.scr ns),some (.val (.int v)),some .pen,some (.val c.p.D),some (.val c.u.D),some (.val c.g.D),some (.val (.tuple (bs.map PyData.int))),some (.val (.int mo)),some (.val c.D),some (.val (zcv L)),u10]) (λN' hN=>?_) ?_
   ·walk_at "ds";refine⟨c,bs,rfl,cok,bg,λlys hL=>?_⟩;rcases zcu lys with rfl |⟨ly,L,rfl⟩
    ·cases hL.1
    have ll:ly.length=bs.length:=by have:=hL.1;rw[List.length_append,List.length_singleton]at this;(clear h63 hy cm hm0 hm1 cm5;lia)
    have LA:LayAt c bs L:=by
     have:=hL.2 ly.length L (by simp)
     rwa [ll,List.take_length]at this
    rw[List.map_append,List.map_cons,List.map_nil];walk_at "ds";exact⟨_,atI_end _ _,hN _ ⟨L,LA,rfl⟩⟩
   rintro σ ⟨L,LA,rfl⟩;have p8:2 ^ bs.length<=256:=Nat.pow_le_pow_right (n:=2) (by decide) ln;have len:=LA.len;have gs:=LA.gs cok bg.lo ln;refine dseq_by (λσ=>∃M,qt c bs M/\σ = [some (.scr ns),some (.val (.int v)),some .pen,some (.val c.p.D),some (.val c.u.D),some (.val c.g.D),some (.val (.tuple (bs.map PyData.int))),some (.val (.int mo)),some (.val c.D),some (.val (zcv L)),some (.val (.int M))]) (λN' hN=>?_) ?_
   ·have m1:=cok.g.r1;have m2:=cok.g.m1;obtain⟨kk,hkk⟩:∃kk:Nat,(kk:Int)=c.g.m+3:=⟨(c.g.m+3).toNat,by (clear h63 hy cm hm0 hm1 cm5 ln p8 len;lia)⟩
    simp only[zcv,Gt.D]at hN ⊢;walk_at "ds";rw[List.length_map];refine⟨by (clear h63 hy cm hm0 hm1 cm5 m1 m2 hkk;lia),zfx Sn.D (λs=>.int (xn c kk s (s.b-1))) (λs hs K hk=>?_) ?_⟩
    ·have g:=gs s hs;have gb:=g.b;have gk:=g.k;have gw:=g.w;walk_at "ds";refine⟨_,xh _ _ _ _ _,?_⟩;walk_at "ds";exact⟨c,s,kk,by rw[hkk],cok,g.pa,by (clear h63 hy cm hm0 hm1 p8 len;lia),by (clear h63 hy cm hm0 hm1 p8 len;lia),hk⟩
    walk_at "ds";have e1:L.map (λs=>PyData.int (xn c kk s (s.b-1)))=(L.map λs=>xn c kk s (s.b-1)).map PyData.int:=by rw[List.map_map];rfl
    rw[e1];refine⟨_,zdk _,?_,λM h1 h2=>?_⟩
    ·rw[List.length_map];refine List.length_pos_iff.mpr λz=>zoo c bs (List.eq_nil_iff_forall_not_mem.mpr λx hx=>?_);have:=(LA.2 x).mpr hx;rw[z]at this;exact absurd this List.not_mem_nil
    ·walk_at "ds";exact hN _ ⟨1+M,zlj cok bg LA kk (by (clear h63 hy cm hm0 hm1 ln p8 len m1 m2;lia)) h1 h2,rfl⟩
   rintro σ ⟨M,hM,rfl⟩;walk_at "ds";refine⟨c,bs,rfl,cok,bg,λM' hM'=>?_⟩
   cases (zoi hM' hM);have hb:0<=M/\M<=2000000:=by
    refine⟨by have:=hM.1;(clear h63 hy cm hm0 hm1 cm5 p8 len;lia),?_⟩;rcases hM.2.2 with e |⟨s,hs,hu⟩
    ·(clear h63 hy cm hm0 hm1 cm5 p8 len;lia)
    ·have g:=(gs s ((LA.2 s).mpr hs)).pa.ok.g
     cases hg:s.g with
     |sh u w=>rw[hg]at hu g;cases hu;exact g.2.1
     |op a=>rw[hg]at hu;cases hu
     |tr a w=>rw[hg]at hu;cases hu
   have shA:Sh (.list [.int M,.int M]) 200 2:=(Sh.lst (n:=41) (k:=0) (m:=2) (zoq (zq9 (by (clear h63 hy cm hm0 hm1 cm5 ln p8 len;lia)) (by (clear h63 hy cm hm0 hm1 cm5 ln p8 len;lia))) (zoq (zq9 (by lia) (by lia)) zvj)) (Nat.le_refl 2)).mono (by decide) (by decide);walk_at "ds";refine⟨by decide,by decide,by decide,shA.can,shA.rep (by decide) (by decide) (λb e=>nomatch e) ⟨rfl,rfl,shA.rep (by decide) (by decide) (λb e=>nomatch e) ?_⟩⟩;walk_at "ds";exact k _ ⟨vs,_,_,_,_,_,_,_,_,_,_,rfl,rfl⟩
 ·rintro σ ⟨vs,u1,u2,u3,u4,u5,u6,u7,u8,u9,u10,e,rfl⟩;walk_at "ds";exact q
end
theorem zwk{us:List Value}(h:us.length=0):us = []:=List.eq_nil_of_length_eq_zero h
theorem zvk{us:List Value}(h:us.length=1):∃a0,us = [a0]:=by
 cases us with
 |nil=>cases h
 |cons a t=>
  obtain rfl:=zwk (Nat.succ.inj h);exact⟨a,rfl⟩
theorem zvl{us:List Value}(h:us.length=2):∃a0 a1,us = [a0,a1]:=by
 cases us with
 |nil=>cases h
 |cons a t=>
  obtain⟨a1,rfl⟩:=zvk (Nat.succ.inj h);exact⟨a,a1,rfl⟩
theorem zvm{us:List Value}(h:us.length=3):∃a0 a1 a2,us = [a0,a1,a2]:=by
 cases us with
 |nil=>cases h
 |cons a t=>
  obtain⟨a1,a2,rfl⟩:=zvl (Nat.succ.inj h);exact⟨a,a1,a2,rfl⟩
theorem zvn{us:List Value}(h:us.length=4):∃a0 a1 a2 a3,us = [a0,a1,a2,a3]:=by
 cases us with
 |nil=>cases h
 |cons a t=>
  obtain⟨a1,a2,a3,rfl⟩:=zvm (Nat.succ.inj h);exact⟨a,a1,a2,a3,rfl⟩
theorem zvo{us:List Value}(h:us.length=5):∃a0 a1 a2 a3 a4,us = [a0,a1,a2,a3,a4]:=by
 cases us with
 |nil=>cases h
 |cons a t=>
  obtain⟨a1,a2,a3,a4,rfl⟩:=zvn (Nat.succ.inj h);exact⟨a,a1,a2,a3,a4,rfl⟩
theorem zwl{us:List Value}(h:us.length=6):∃a0 a1 a2 a3 a4 a5,us = [a0,a1,a2,a3,a4,a5]:=by
 cases us with
 |nil=>cases h
 |cons a t=>
  obtain⟨a1,a2,a3,a4,a5,rfl⟩:=zvo (Nat.succ.inj h);exact⟨a,a1,a2,a3,a4,a5,rfl⟩
theorem cal(P:Program)(w:World)(base:Heap){K:PySem.W.Frag}{h:Heap}{mg:Str->Option Value}{x:Str}{st:Stmt}{k:Nat}{ps:List Str}{sp:Sp}(X:K.In h)(G:h.Ns mainGlobals mg)(p:xc K x st)(ok:∀(f:Addr) (fd:FuncData),Fun K x x st f fd->FnOk P w K mg base CX0 k f fd ps sp)(hb:∀us:List Value,us.length=ps.length->∀(kV doc pm:Value) (an:Option Addr) (cdv ct:Value),bindArgs (PySem.W.fnOf x x (vc st) (xv st) (zl st) .none kV doc pm an cdv ct) ⟨us,[]⟩=pure (ps.zip us)):je P w K mg base k x ps sp :=
 let ⟨f,fd,a,F⟩:=p;⟨f,fd,ok f fd F,F.binds λa b c d e g us hl=>hb us hl a b c d e g,F.kp,PySem.W.mg_of X G a⟩
theorem zor{p:List Value->Prop}(h:∀a0,p [a0])(us:List Value)(hl:us.length=1):p us:=by
 obtain⟨a0,rfl⟩:=zvk hl;exact h a0
theorem zdb{p:List Value->Prop}(h:∀a0 a1,p [a0,a1])(us:List Value)(hl:us.length=2):p us:=by
 obtain⟨a0,a1,rfl⟩:=zvl hl;exact h a0 a1
theorem zqn{p:List Value->Prop}(h:∀a0 a1 a2,p [a0,a1,a2])(us:List Value)(hl:us.length=3):p us:=by
 obtain⟨a0,a1,a2,rfl⟩:=zvm hl;exact h a0 a1 a2
theorem zg2{p:List Value->Prop}(h:∀a0 a1 a2 a3,p [a0,a1,a2,a3])(us:List Value)(hl:us.length=4):p us:=by
 obtain⟨a0,a1,a2,a3,rfl⟩:=zvn hl;exact h a0 a1 a2 a3
theorem zwm{p:List Value->Prop}(h:∀a0 a1 a2 a3 a4,p [a0,a1,a2,a3,a4])(us:List Value)(hl:us.length=5):p us:=by
 obtain⟨a0,a1,a2,a3,a4,rfl⟩:=zvo hl;exact h a0 a1 a2 a3 a4
theorem zwn{p:List Value->Prop}(h:∀a0 a1 a2 a3 a4 a5,p [a0,a1,a2,a3,a4,a5])(us:List Value)(hl:us.length=6):p us:=by
 obtain⟨a0,a1,a2,a3,a4,a5,rfl⟩:=zwl hl;exact h a0 a1 a2 a3 a4 a5
theorem all_mk{l:PySem.W.OpenLaw}{w:World}{K:PySem.W.Frag}{h:Heap}{mg:Str->Option Value}{fa  : Addr}(X:K.In h)(G:h.Ns mainGlobals mg)(hfa:mg "law" = some (.ref fa))
  (p0:xc K "growing" zaz)
  (p1:xc K "gap_at" zci)
  (p2:xc K "lets" zij)
  (p3:xc K "heard" ze1)
  (p4:xc K "heard_open" vh)
  (p5:xc K "heard_trying" wc)
  (p6:xc K "coins_asked" wr)
  (p7:xc K "can_pay" za0)
  (p8:xc K "coins_by" jm)
  (p9:xc K "first_of" jn)
  (p10:xc K "knocked" za1)
  (p11:xc K "what_of" za2)
  (p12:xc K "tried" ze2)
  (p13:xc K "asked" ze3)
  (p14:xc K "stepped" za3)
  (p15:xc K "standings_ahead" xp)
  (p16:xc K "calm_from" qe)
  (p17:xc K "_law_cell_at" wd)
  (p18:xc K "_law_next" qf)
  (p19:xc K "_law_pen_of" wt)
  (p20:xc K "_law_draw" qg)
  (p21:xc K "_law_caller" wu)
  (p22:xc K "_law_gap" jo)
  (p23:xc K "_law_hear" qh)
  (p24:xc K "_law_try" jq)
  (p25:xc K "_law_step" qi)
  (p26:xc K "_law_first" vi)
  (p27:xc K "_law_every" vj)
  (p28:xc K "_law_latest" wv)
  (p29:xc K "law" zn3)
  (z_len:PySem.W.nsIn K mainGlobals "len" = some none)
  (z_range:PySem.W.nsIn K mainGlobals "range" = some none)
  (z_min:PySem.W.nsIn K mainGlobals "min" = some none)
  (z_max:PySem.W.nsIn K mainGlobals "max" = some none)
  (z_repr:PySem.W.nsIn K mainGlobals "repr" = some none)
  (z_isinstance:PySem.W.nsIn K mainGlobals "isinstance" = some none)
  (z_sorted:PySem.W.nsIn K mainGlobals "sorted" = some none)
  (z_tupleT:PySem.W.nsIn K mainGlobals "tuple" = some none)
  (z_intT:PySem.W.nsIn K mainGlobals "int" = some none)
  (z_listT:PySem.W.nsIn K mainGlobals "list" = some none)
  (z_strT:PySem.W.nsIn K mainGlobals "str" = some none)
  {t_SILENT:Tok} (y_SILENT:PySem.W.nsIn K mainGlobals "SILENT" = some (some (.str "silent" t_SILENT)))
  {t_OPEN:Tok} (y_OPEN:PySem.W.nsIn K mainGlobals "OPEN" = some (some (.str "open" t_OPEN)))
  {t_SHUT:Tok} (y_SHUT:PySem.W.nsIn K mainGlobals "SHUT" = some (some (.str "shut" t_SHUT)))
  {t_TRYING:Tok} (y_TRYING:PySem.W.nsIn K mainGlobals "TRYING" = some (some (.str "trying" t_TRYING)))
  {t_HELD:Tok} (y_HELD:PySem.W.nsIn K mainGlobals "HELD" = some (some (.str "held" t_HELD)))
  {gt_FIRST_STANDING_0:Tok}{gt_FIRST_STANDING_1:Tok}{ga_FIRST_STANDING:Addr}{gn_FIRST_STANDING:Nat}{gs_FIRST_STANDING:Array (Option Value)} (yl_FIRST_STANDING:K.lookup ga_FIRST_STANDING=some ⟨.type "tuple",none,.seq #[.str "open" gt_FIRST_STANDING_0,.int 0 gt_FIRST_STANDING_1] gn_FIRST_STANDING,gs_FIRST_STANDING⟩)
  (y_FIRST_STANDING:PySem.W.nsIn K mainGlobals "FIRST_STANDING" = some (some (.ref ga_FIRST_STANDING)))
  {t_ASK:Tok} (y_ASK:PySem.W.nsIn K mainGlobals "ASK" = some (some (.str "a" t_ASK)))
  {t_KNOCK:Tok} (y_KNOCK:PySem.W.nsIn K mainGlobals "KNOCK" = some (some (.str "k" t_KNOCK)))
  {t_SERVED:Tok} (y_SERVED:PySem.W.nsIn K mainGlobals "SERVED" = some (some (.str "served" t_SERVED)))
  : ∃fd:FuncData,(∀(s:Shared) (v:Value),BindsTo s fd ⟨[v],[]⟩ [("_law_script",v)])/\∀base:Heap,K.In base->base.Ns mainGlobals mg->FnOk l.prog w K mg base CX0 8 fa fd ["_law_script"] (ye K ze6):=by
 obtain⟨f29,fd29,a29,F29⟩:=p29;have e:=hfa.symm.trans (PySem.W.mg_of X G a29)
 cases e;have B:Blt mg:=⟨PySem.W.mg_none_of X G z_len,PySem.W.mg_none_of X G z_range,PySem.W.mg_none_of X G z_min,PySem.W.mg_none_of X G z_max,PySem.W.mg_none_of X G z_repr,PySem.W.mg_none_of X G z_isinstance,PySem.W.mg_none_of X G z_sorted,PySem.W.mg_none_of X G z_tupleT,PySem.W.mg_none_of X G z_intT,PySem.W.mg_none_of X G z_listT,PySem.W.mg_none_of X G z_strT⟩
 have G_SILENT:=PySem.W.mg_of X G y_SILENT;have G_OPEN:=PySem.W.mg_of X G y_OPEN;have G_SHUT:=PySem.W.mg_of X G y_SHUT;have G_TRYING:=PySem.W.mg_of X G y_TRYING;have G_HELD:=PySem.W.mg_of X G y_HELD;have G_FIRST_STANDING:=PySem.W.mg_of X G y_FIRST_STANDING;have N_FIRST_STANDING:∀H,Rep K H (.tuple [(.str "open"),(.int 0)]) (.ref ga_FIRST_STANDING):=λH=>(.tup (zut (xs:=[.str "open",.int 0]) yl_FIRST_STANDING (Nat.le_of_ble_eq_true rfl) (.cons ⟨_,rfl⟩ (.cons ⟨_,rfl⟩ .nil))) (.cons .str (.cons .int .nil)))
 have G_ASK:=PySem.W.mg_of X G y_ASK;have G_KNOCK:=PySem.W.mg_of X G y_KNOCK;have G_SERVED:=PySem.W.mg_of X G y_SERVED;refine⟨fd29,λs v=>zlb F29 (λ_ _ _ _ _ _=>rfl),λbase _ _=>?_⟩;have C_growing:=cal l.prog w base X G p0 (λ_ _ F=>zil B F  ) (zdb λ_ _ _ _ _ _ _ _=>rfl);have C_lets:=cal l.prog w base X G p2 (λ_ _ F=>zqf B F G_SHUT G_TRYING ) (zqn λ_ _ _ _ _ _ _ _ _=>rfl);have C_heard_open:=cal l.prog w base X G p4 (λ_ _ F=>zc8 B F G_FIRST_STANDING N_FIRST_STANDING G_OPEN G_SHUT ) (zg2 λ_ _ _ _ _ _ _ _ _ _=>rfl);have C_heard_trying:=cal l.prog w base X G p5 (λ_ _ F=>zbm B F G_FIRST_STANDING N_FIRST_STANDING G_TRYING G_SHUT ) (zg2 λ_ _ _ _ _ _ _ _ _ _=>rfl);have C_coins_asked:=cal l.prog w base X G p6 (λ_ _ F=>zcn B F  ) (zqn λ_ _ _ _ _ _ _ _ _=>rfl);have C_can_pay:=cal l.prog w base X G p7 (λ_ _ F=>zim B F  ) (zdb λ_ _ _ _ _ _ _ _=>rfl);have C_first_of:=cal l.prog w base X G p9 (λ_ _ F=>zgt B F G_FIRST_STANDING N_FIRST_STANDING ) (zor λ_ _ _ _ _ _ _=>rfl);have C__law_cell_at:=cal l.prog w base X G p17 (λ_ _ F=>zbl B F  ) (zdb λ_ _ _ _ _ _ _ _=>rfl);have C__law_next:=cal l.prog w base X G p18 (λ_ _ F=>ze4 B F  ) (zor λ_ _ _ _ _ _ _=>rfl);have C__law_pen_of:=cal l.prog w base X G p19 (λ_ _ F=>zck B F  ) (zor λ_ _ _ _ _ _ _=>rfl);have C__law_gap:=cal l.prog w base X G p22 (λ_ _ F=>zgw B F  ) (zdb λ_ _ _ _ _ _ _ _=>rfl);have C__law_hear:=cal l.prog w base X G p23 (λ_ _ F=>zfa B F  ) (zg2 λ_ _ _ _ _ _ _ _ _ _=>rfl);have C__law_first:=cal l.prog w base X G p26 (λ_ _ F=>zc9 B F  ) (zor λ_ _ _ _ _ _ _=>rfl);have C_gap_at:=cal l.prog w base X G p1 (λ_ _ F=>zlc B F  C_growing) (zdb λ_ _ _ _ _ _ _ _=>rfl);have C_heard:=cal l.prog w base X G p3 (λ_ _ F=>zn5 B F G_SHUT G_OPEN C_heard_open C_heard_trying) (zg2 λ_ _ _ _ _ _ _ _ _ _=>rfl);have C_coins_by:=cal l.prog w base X G p8 (λ_ _ F=>zgs B F G_ASK C_coins_asked C_can_pay) (zqn λ_ _ _ _ _ _ _ _ _=>rfl);have C__law_draw:=cal l.prog w base X G p20 (λ_ _ F=>ze5 B F  C__law_next) (zdb λ_ _ _ _ _ _ _ _=>rfl);have C__law_try:=cal l.prog w base X G p24 (λ_ _ F=>zgx B F  C__law_gap C__law_hear) (zg2 λ_ _ _ _ _ _ _ _ _ _=>rfl)
 have C_knocked:=cal l.prog w base X G p10 (λ_ _ F=>zin B F G_HELD G_SERVED G_SILENT C_lets C_heard) (zg2 λ_ _ _ _ _ _ _ _ _ _=>rfl);have C_what_of:=cal l.prog w base X G p11 (λ_ _ F=>zio B F  C_gap_at C_can_pay) (zwm λ_ _ _ _ _ _ _ _ _ _ _=>rfl);have C_asked:=cal l.prog w base X G p13 (λ_ _ F=>zoa B F G_ASK C_coins_by) (zdb λ_ _ _ _ _ _ _ _=>rfl);have C__law_caller:=cal l.prog w base X G p21 (λ_ _ F=>zcx B F  C__law_draw) (zor λ_ _ _ _ _ _ _=>rfl);have C__law_step:=cal l.prog w base X G p25 (λ_ _ F=>zfb B F  C__law_try) (zg2 λ_ _ _ _ _ _ _ _ _ _=>rfl);have C_tried:=cal l.prog w base X G p12 (λ_ _ F=>zn9 B F G_SERVED G_KNOCK C_coins_by C_knocked C_what_of) (zwn λ_ _ _ _ _ _ _ _ _ _ _ _=>rfl);have C__law_every:=cal l.prog w base X G p27 (λ_ _ F=>zda B F  C__law_step C__law_first) (zdb λ_ _ _ _ _ _ _ _=>rfl);have C__law_latest:=cal l.prog w base X G p28 (λ_ _ F=>zcw B F  C__law_step) (zqn λ_ _ _ _ _ _ _ _ _=>rfl);have C_stepped:=cal l.prog w base X G p14 (λ_ _ F=>zir B F  C_tried C_asked) (zg2 λ_ _ _ _ _ _ _ _ _ _=>rfl);have C_standings_ahead:=cal l.prog w base X G p15 (λ_ _ F=>ju B F  C_first_of C_stepped) (zdb λ_ _ _ _ _ _ _ _=>rfl);have C_calm_from:=cal l.prog w base X G p16 (λ_ _ F=>zfc B F G_SHUT C_standings_ahead) (zdb λ_ _ _ _ _ _ _ _=>rfl);exact ztv B F29  C_calm_from C__law_cell_at C__law_pen_of C__law_draw C__law_caller C__law_every C__law_latest
theorem walk{l:PySem.W.OpenLaw}{q:Program}{loose:List Str}{XP:(Str->Option Value)->Heap->Prop}{YP:World->Heap->Prop}{d:DefRec}{K:Params->PySem.W.Frag}(hn:l.most=some 63)(hdf:d.params.defaults = [])
  (hY:∀(w:World) (h:Heap),YP w h->(K w.params).In h)
  (F:∀(w:World) (mg:Str->Option Value) (fa:Addr) (h:Heap),(K w.params).In h->h.Ns mainGlobals mg->mg d.name=some (.ref fa) ->
   ∃fd:FuncData,(∀(s:Shared) (u:Value),BindsTo s fd ⟨[u],[]⟩ [("_law_script",u)])/\∀base:Heap,(K w.params).In base->base.Ns mainGlobals mg->FnOk l.prog w (K w.params) mg base CX0 8 fa fd ["_law_script"] (ye (K w.params) ze6)) :
  PySem.W.WalkO q loose XP YP l.row.toRowW d [] (λf vs=>PySem.call f vs) :=
 L2.walk_of (n:=63) (k:=8) (x := "_law_script") (CX:=λ_=>CX0) (sp:=λw=>ye (K w.params) ze6) hn (by decide) hdf ⟨rfl,by decide,by decide,rfl⟩ hY F (λ_ _ a ns hl _ hS=>⟨[.scr ns],λr=>r=.val (.bool true),.cons ⟨a,rfl,hS⟩ .nil,⟨ns,rfl,hl,rfl⟩,λv H' r _ rp e=>by subst e;cases rp;rfl⟩) λ_ _ _ _ _ z=>z
end My
namespace PySem.W.Fast
def tw11062898315460801594:=()
def tw2838537772101853778:=()
def tw749113846693406649:=()
def tw15808119699526624706:=()
def tw3204902477160015828:=()
def tw12371459246589220924:=()
def tw1701035105027267023:=()
def tw14808327330819416369:=()
def tw5330027818351150154:=()
def tw13731003495628995264:=()
def tw15481721787952927627:=()
def tw7630548264636143521:=()
def tw18214411494365600967:=()
def tw7356415094056260543:=()
def tw12520573186522735909:=()
def tw11951112187357898060:=()
def tw11635075647812651452:=()
def tw16262787347580313751:=()
def tw6520776293128724209:=()
def tw1671238075809826411:=()
def tw1299017859912008053:=()
def tw7303379770626833807:=()
def tw3383616942398104453:=()
def tw10413031281197621371:=()
def tw17110235007508517601:=()
def tw17224276318480517500:=()
def tw2897299691535487431:=()
def tw5091146411165840197:=()
def tw12584327750043669979:=()
def tw2292998244998183184:=()
def tw3564916359880479375:=()
def tw13432054901097026523:=()
def tw5087514586813129878:=()
def tw15093755143171848935:=()
def tw15318136038242079983:=()
def tw14696964510396378412:=()
def tw4636403397415398168:=()
def tw9592939764092775047:=()
def tw6757270085368203411:=()
def tw3581448281613729767:=()
def tw8456595698445316216:=()
def tw14481345282391916703:=()
def tw16536155986861876525:=()
def tw7660817308189973869:=()
def tw11737853071641815947:=()
def tw9010719804216216199:=()
def tw1488180392359139861:=()
def tw1163330265418346084:=()
def tw8259392073120564915:=()
def tw12316129442640060449:=()
def tw8676579059791633816:=()
def tw17905057513601140033:=()
def tw3180100199545225551:=()
def tw10723821571706789895:=()
def tw8486332427729549160:=()
def tw3416785929100238686:=()
def tw17914997822531605743:=()
def tw14899117643940045207:=()
def tw4126181532187060380:=()
def tw12220567032413862406:=()
def tw14771385677638938660:=()
def tw5086325987608992750:=()
def tw6182232494516750718:=()
def tw12983972464930474543:=()
def tw17588053988357477330:=()
def tw15706545093218969739:=()
def tw12364788576701617113:=()
def tw14780194912345872976:=()
def tw8791312673989140637:=()
def tw8688613137002340122:=()
def tw4292479897614681280:=()
def tw10959790447307293179:=()
def tw10540979993236854866:=()
def tw18167680313203016008:=()
def tw4941223030079539099:=()
def tw13836946806352933012:=()
def tw5437256602200191252:=()
def tw11998987640367087222:=()
def tw10637774494489118157:=()
def tw16020785821770911840:=()
def tw22806043106280294:=()
def tw3375564171226151837:=()
def tw11717899147576751545:=()
def tw3274012972174325614:=()
def tw10196696715398519793:=()
def tw11667106490385082676:=()
def tw8314222431720691650:=()
def tw17005035672167535750:=()
def tw5585708263072991720:=()
def tw4737878418789724812:=()
def tw7954128133873980278:=()
def tw16256551659702660863:=()
def tw8329991258640986661:=()
def tw13033551528912575335:=()
def tw16802760711832709061:=()
def tw12721553340128163936:=()
def tw6047048622761945672:=()
def tw8185345189935209712:=()
def tw8997538265221106196:=()
def tw5754061520878524606:=()
def tw13262919686556014121:=()
def tw11616506965729499543:=()
def tw13218606629135794259:=()
def tw4726985431118207960:=()
def tw16859833680665195982:=()
def tw17208082994429675901:=()
def tw6375639392076830394:=()
def tw16384113054132092676:=()
def tw17056342285785412378:=()
def tw2007308446743911996:=()
def tw5234474733961162935:=()
def tw16958271842043577619:=()
def tw11897115866539180838:=()
def tw12285717666033086816:=()
def tw217393327200846025:=()
def tw5984073258174218516:=()
def tw5627641204587215726:=()
def tw3795896880990243989:=()
def tw11608546224005263622:=()
def tw15347316577159361724:=()
def tw7213705504612048117:=()
def tw14677930514988693180:=()
def tw1045262952359200433:=()
def tw13179273709228052930:=()
def tw12524359758930335170:=()
def tw7099516743856473286:=()
def tw11169289897135285688:=()
def tw1655425769038125100:=()
def tw17012120517327572616:=()
def tw8549827658791149201:=()
def tw3141016332977322288:=()
def tw17294711790186697019:=()
def tw7273873206734331270:=()
def tw4761761196353798577:=()
def tw13176924885336055868:=()
def tw2759318661946426293:=()
def tw14318229361495895911:=()
def tw5273531432171633006:=()
def tw4903399507178924377:=()
def tw412173049458278518:=()
def tw12285252658222035557:=()
def tw10120102037370957510:=()
def tw2854412287601314095:=()
def tw2401587262097735649:=()
def tw17800217169446564261:=()
def tw8971634462133588709:=()
def tw3264372508642694590:=()
def tw16871716974306580192:=()
def tw10678781012292691384:=()
def tw10735420254160457328:=()
def tw17284453370083985442:=()
def tw12192286011068099249:=()
def tw7918037608878589219:=()
def tw4653135240274288114:=()
def tw7524301893627713422:=()
def tw2489320170418122433:=()
def tw9517153446516752709:=()
def tw15835123537837196449:=()
def tw3821166515604041212:=()
def tw15439276604653864151:=()
def tw16563417813097117217:=()
def tw11817617902158441908:=()
def tw9857183369293039495:=()
def tw6450617956523201407:=()
def tw8966083897214373332:=()
def tw5475497729350752483:=()
def tw6510329200726581474:=()
def tw216209564696876264:=()
def tw10172224948003046043:=()
def tw10927334199161096407:=()
def tw842052335162592187:=()
def tw7126179989179222130:=()
def tw2507025722742184020:=()
def tw7548962674172010911:=()
def tw14179854252433697121:=()
def tw6293899012648152479:=()
def tw16409166499027734945:=()
def tw2176131983297497410:=()
def tw16387590955101782666:=()
def tw16261667355773094590:=()
def tw596560708466878194:=()
def tw3408421323117742020:=()
def tw12620062453670291133:=()
def tw1740493580386981481:=()
def tw6826437402870658949:=()
def tw13719345079029019426:=()
def tw10471852126713391270:=()
def tw15091805657141556110:=()
def tw7345263782841810810:=()
def tw15429008031401755503:=()
def tw8188245370391957261:=()
def tw1837918176391643470:=()
def tw4806070612727947165:=()
def tw12748833592965364494:=()
def tw15917306882835843074:=()
def tw18045216430065475693:=()
def tw18256852824365695964:=()
def tw17816699172328083793:=()
def tw16938665413464040466:=()
def tw8052122502967036727:=()
def tw14781861715141591879:=()
def tw5480932669338404026:=()
def tw1311982902692982719:=()
def tw15874711717611012647:=()
def tw8958368656817044213:=()
def tw9996395842163344234:=()
def tw4354213450678268127:=()
def tw1045551480958099154:=()
def tw16904156217486882908:=()
def tw1244808256297385115:=()
def tw7289394488582810424:=()
def tw9758262072003395871:=()
def tw2951670258078736805:=()
def tw18327586562179722183:=()
def tw9886218877303678594:=()
def tw7255595477768926890:=()
def tw18045815147332180062:=()
end PySem.W.Fast
open PySem PySem.W PyProof.Rows
local macro_rules|`(tactic| walk_at "fn")=>`(tactic|(refine' My.fn_at ?a ?l ?c ?k;(case a=>k_is);(case l=>k_is);(case c=>k_is);(case k=>k_is)))
set_option maxRecDepth 100000 in
set_option maxHeartbeats 0 in
theorem PySem.Challenge.cw_knockpurse_k76_calm_behind_healing_holds : PySem.Challenge.rw_knockpurse_k76_calm_behind_healing.Holds := by
 w_on;o_law;k_head;(case hw=>w_witness2)
 k_fill
 refine My.walk (l:=PySem.Challenge.rw_knockpurse_k76_calm_behind_healing) rfl rfl (λw h Y=>PySem.W.kIn_of Y) ?F
 case F=>
  intro w mg fa h KX G hmg
  refine' My.all_mk KX G hmg ?p0 ?p1 ?p2 ?p3 ?p4 ?p5 ?p6 ?p7 ?p8 ?p9 ?p10 ?p11 ?p12 ?p13 ?p14 ?p15 ?p16 ?p17 ?p18 ?p19 ?p20 ?p21 ?p22 ?p23 ?p24 ?p25 ?p26 ?p27 ?p28 ?p29 ?z_len ?z_range ?z_min ?z_max ?z_repr ?z_isinstance ?z_sorted ?z_tupleT ?z_intT ?z_listT ?z_strT ?y_SILENT ?y_OPEN ?y_SHUT ?y_TRYING ?y_HELD ?yl_FIRST_STANDING ?y_FIRST_STANDING ?y_ASK ?y_KNOCK ?y_SERVED
  (case p0=>walk_at "fn")
  (case p1=>walk_at "fn")
  (case p2=>walk_at "fn")
  (case p3=>walk_at "fn")
  (case p4=>walk_at "fn")
  (case p5=>walk_at "fn")
  (case p6=>walk_at "fn")
  (case p7=>walk_at "fn")
  (case p8=>walk_at "fn")
  (case p9=>walk_at "fn")
  (case p10=>walk_at "fn")
  (case p11=>walk_at "fn")
  (case p12=>walk_at "fn")
  (case p13=>walk_at "fn")
  (case p14=>walk_at "fn")
  (case p15=>walk_at "fn")
  (case p16=>walk_at "fn")
  (case p17=>walk_at "fn")
  (case p18=>walk_at "fn")
  (case p19=>walk_at "fn")
  (case p20=>walk_at "fn")
  (case p21=>walk_at "fn")
  (case p22=>walk_at "fn")
  (case p23=>walk_at "fn")
  (case p24=>walk_at "fn")
  (case p25=>walk_at "fn")
  (case p26=>walk_at "fn")
  (case p27=>walk_at "fn")
  (case p28=>walk_at "fn")
  (case p29=>walk_at "fn")
  (case z_len=>k_is)
  (case z_range=>k_is)
  (case z_min=>k_is)
  (case z_max=>k_is)
  (case z_repr=>k_is)
  (case z_isinstance=>k_is)
  (case z_sorted=>k_is)
  (case z_tupleT=>k_is)
  (case z_intT=>k_is)
  (case z_listT=>k_is)
  (case z_strT=>k_is)
  (case y_SILENT=>k_is)
  (case y_OPEN=>k_is)
  (case y_SHUT=>k_is)
  (case y_TRYING=>k_is)
  (case y_HELD=>k_is)
  (case y_FIRST_STANDING=>k_is)
  (case yl_FIRST_STANDING=>k_is)
  (case y_ASK=>k_is)
  (case y_KNOCK=>k_is)
  (case y_SERVED=>k_is)
