import PyProof.Rows.All
import PyProof.StrReplace2
import PyProof.Rows.TupDisplay
import PyProof.SliceList
import PyProof.DictWalks
import PyProof.ListStr
import KE.KEqDict
import Wide.All
import OpenK.AllK
import Wide.FinOn
import Lean
import PyProof.EqAt
import PyProof.EqKinds
import PyProof.TupleCall
import PyProof.ListMulRoad
import PyProof.Lay0
import PyProof.Rows.EqDataRows
import PyProof.ReprRoads
import PyProof.Rows.MinMaxN
import PyProof.ReprLen
import PyProof.FitsInt
import PyProof.MinMaxWalk
import KE.KRevSl
import KE.KRevIter
import PyProof.ListRange
import PyProof.Sched
import PyProof.Rows.SortShellK
import PyProof.Rows.SortRunK
import PyProof.Rows.SortRuns
import PyProof.TupleOfSeq
import PyProof.RulesAs
import OpenK.KDescr
import OpenK.KOwn
import KE.KIsNot
import KE.KIsAll
import PyProof.Rows.SetFrom
import PyProof.WalksMore
import PyProof.CollectWalk
import KE.KLam
import KE.KMinKey
import KE.KSortKey
import KE.KDictList
import KE.KDictOf
import PyProof.Rows.Range3
import PyProof.FactsAll.range
import PyProof.Rows.StrLen
import PyProof.Rows.StrCase
import PyProof.StrBlock2
import PyProof.Rows.StrRules
import PyProof.Rows.RegReprOcc
import PyProof.AttrMissSeq
import PyProof.DictWalks
import KE.KEqDict
import PyProof.ExcInit
import PyProof.ExcClass3
import PyProof.InstStoreFacts
import PyProof.SetRoads
import PyProof.TupleKey
import PySem.Challenge.RW_knockpurse_k70_whole_beat_by_beat_alike
set_option Elab.async false
set_option linter.all false
set_option maxRecDepth 100000
namespace L2
open PySem PySem.Spec PyProof.Rows
abbrev Key:=Sum Int Str
def zdp:Key->Value->Bool
 |.inl k,v=>Value.isInt k v
 |.inr x,v=>Value.isStrOf x v
def zwt(w:World):Key->Int
 |.inl k=>hashInt k
 |.inr x=>hashStr w x
theorem y4:∀{k:Key}{v:Value},zdp k v=true->(∃i t,k=Sum.inl i/\v=Value.int i t)\/(∃x t,k=Sum.inr x/\v=Value.str x t)
 |.inl i,v,h=>by
  obtain⟨t,e⟩:=Value.isInt_shape (k:=i) (v:=v) h;exact .inl ⟨i,t,rfl,e⟩
 |.inr x,v,h=>by
  obtain⟨t,e⟩:=Value.isStrOf_shape (x:=x) (v:=v) h;exact .inr ⟨x,t,rfl,e⟩
theorem zkr(i:Int)(t:Tok):zdp (.inl i) (.int i t)=true:=by simp[zdp,Value.isInt]
theorem zks(x:Str)(t:Tok):zdp (.inr x) (.str x t)=true:=by simp[zdp,Value.isStrOf]
theorem zrp(a b:Int):decide ((Sum.inl a:Key)=Sum.inl b)=(a == b):=by
 by_cases e:a=b
 ·subst e;simp
 ·have h:¬ (Sum.inl a:Key)=Sum.inl b:=λq=>e (Sum.inl.inj q);rw[decide_eq_false h];exact(beq_eq_false_iff_ne.mpr e).symm
theorem zrq(a b:Str):decide ((Sum.inr a:Key)=Sum.inr b)=decide (a=b):=by
 by_cases e:a=b
 ·subst e;simp
 ·have h:¬ (Sum.inr a:Key)=Sum.inr b:=λq=>e (Sum.inr.inj q);rw[decide_eq_false h,decide_eq_false e]
theorem zrr(a:Int)(b:Str):decide ((Sum.inl a:Key)=Sum.inr b)=false:=decide_eq_false (λq=>nomatch q)
theorem zrs(a:Str)(b:Int):decide ((Sum.inr a:Key)=Sum.inl b)=false:=decide_eq_false (λq=>nomatch q)
def xg(prog:Program)(w:World):PySem.KeyKind prog w Key where
 is:=zdp
 hash:=zwt w
 inj:=λv a b ha hb=>by
  rcases y4 ha with⟨i,t,rfl,rfl⟩ |⟨x,t,rfl,rfl⟩
  ·rcases y4 hb with⟨j,u,rfl,e⟩ |⟨y,u,rfl,e⟩
   ·injection e with e1 _;rw[e1]
   ·exact nomatch e
  ·rcases y4 hb with⟨j,u,rfl,e⟩ |⟨y,u,rfl,e⟩
   ·exact nomatch e
   ·injection e with e1 _;rw[e1]
 byValue:=λk v h=>by
  rcases y4 h with⟨i,t,rfl,rfl⟩ |⟨x,t,rfl,rfl⟩ <;> rfl
 pyHash:=λhv h=>by
  rcases y4 hv with⟨i,t,rfl,rfl⟩ |⟨x,t,rfl,rfl⟩
  ·exact wpAny_pyHash_int h
  ·exact wpAny_pyHash_str h
 eqBool:=λhu hv h=>by
  rcases y4 hu with⟨i,t,rfl,rfl⟩ |⟨x,t,rfl,rfl⟩
  ·rcases y4 hv with⟨j,u,rfl,rfl⟩ |⟨y,u,rfl,rfl⟩
   ·rw[zrp]at h;exact wpAny_eqBool_int h
   ·rw[zrr]at h;exact SeqAt.EqAt.int_str i t y u _ _ _ _ h
  ·rcases y4 hv with⟨j,u,rfl,rfl⟩ |⟨y,u,rfl,rfl⟩
   ·rw[zrs]at h;exact SeqAt.EqAt.str_int x t j u _ _ _ _ h
   ·rw[zrq]at h;exact wpAny_eqBool_str h
 «strs»:=λk x t v h=>by
  rcases y4 h with⟨i,u,rfl,e⟩ |⟨y,u,rfl,e⟩
  ·exact nomatch e
  ·injection e with e1 _
   subst e1
   cases v <;> rfl
theorem zfy(prog:Program)(w:World)(i:Int)(t:Tok):(xg prog w).is (.inl i) (.int i t)=true:=zkr i t
theorem zfz(prog:Program)(w:World)(x:Str)(t:Tok):(xg prog w).is (.inr x) (.str x t)=true:=zks x t
inductive V where
 |non|bl (b:Bool)|int (i:Int)|str (x:Str)|byt (b:Array UInt8)|flt (b:UInt64)|ref (a:Addr)|ty (n:String)
 deriving DecidableEq
def RelV:V->Value->Prop
 |.non,u=>u=Value.none
 |.bl b,u=>u=Value.bool b
 |.int i,u=>∃t,u=Value.int i t
 |.str x,u=>∃t,u=Value.str x t
 |.byt b,u=>∃t,u=Value.bytes b t
 |.flt b,u=>∃t,u=Value.float b t
 |.ref a,u=>u=Value.ref a
 |.ty n,u=>u=Value.type n
abbrev Vals:List V->List Value->Prop:=Paired RelV
theorem Vals.length{xs:List V}{us:List Value}(r:Vals xs us):xs.length=us.length:=Paired.length r
theorem Vals.get:∀{xs:List V}{us:List Value}{i:Nat}{x:V},Vals xs us->xs[i]?=some x->∃u,us[i]?=some u/\RelV x u
 |_,_,_,_,.nil,e=>by simp at e
 |_,_,0,_,.cons r _,e=>by simp at e;subst e;exact⟨_,rfl,r⟩
 |_,_,i+1,x,.cons _ t,e=>by
  obtain⟨u,h1,h2⟩:=Vals.get (i:=i) (x:=x) t (by simpa using e);exact⟨u,by simpa using h1,h2⟩
theorem Vals.set{x:V}{u:Value}(r:RelV x u):∀{xs:List V}{us:List Value} (i:Nat),Vals xs us->Vals (xs.set i x) (us.set i u)
 |_,_,_,.nil=>.nil
 |_,_,0,.cons _ t=>.cons r t
 |_,_,i+1,.cons q t=>.cons q (Vals.set r i t)
theorem Vals.append:∀{xs ys:List V}{us ws:List Value},Vals xs us->Vals ys ws->Vals (xs++ys) (us++ws)
 |_,_,_,_,.nil,s=>s
 |_,_,_,_,.cons r t,s=>.cons r (Vals.append t s)
theorem Vals.take:∀{xs:List V}{us:List Value} (n:Nat),Vals xs us->Vals (xs.take n) (us.take n)
 |_,_,0,_=>.nil
 |_,_,_+1,.nil=>.nil
 |_,_,n+1,.cons r t=>.cons r (Vals.take n t)
theorem Vals.drop:∀{xs:List V}{us:List Value} (n:Nat),Vals xs us->Vals (xs.drop n) (us.drop n)
 |_,_,0,r=>r
 |_,_,_+1,.nil=>.nil
 |_,_,n+1,.cons _ t=>Vals.drop n t
def RelO:Option V->Option Value->Prop
 |some v,some u=>RelV v u
 |none,none=>True
 |_,_=>False
def KV{κ:Type}:List (κ×V)->List (κ×Value)->Prop:=Paired λ(p:κ×V) (q:κ×Value)=>p.1=q.1/\RelV p.2 q.2
def kV:Key->V
 |.inl i=>.int i
 |.inr x=>.str x
inductive HO where
  |lst (xs:List V)
  |tup (xs:List V)
  |dK (kvs:List (Key×V))|dT (kvs:List (List Key×V))
  |set (S:Int->Bool) (n:Nat)
  |ins (C dx:Addr) (fs:List (Str×V))
  |own (x:Addr)
  |xd (fs:List (Str×V))
  |met (f x:Addr)
  |rng (lo hi:Int)
  |frz (o:Obj) (u:HO)
  |tbl (ps:Array Value)
  |ext (φ:Heap->Prop)
abbrev Hp:=Addr->Option HO
def upd(H:Hp)(a:Addr)(o:HO):Hp:=λb=>if b=a then some o else H b
theorem zx{H:Hp}{a:Addr}{o:HO}:upd H a o a=some o:=by unfold upd;rw[if_pos rfl]
theorem zv{H:Hp}{a b:Addr}{o:HO}(h:b≠a):upd H a o b=H b:=by unfold upd;rw[if_neg h]
theorem zf0{H:Hp}{a b:Addr}{o u:HO}(h:H a=some o)(h':H b=some u)(d:o≠u):a≠b:=by
 intro e;subst e;rw[h]at h';exact d (Option.some.inj h')
theorem ym{H:Hp}{a b:Addr}{o:HO}(h:H a=some o)(h':H b=none):a≠b:=by
 intro e;subst e;rw[h]at h';cases h'
def TupD(h:Heap)(a:Addr)(items:Array Value):Prop:=∃o,h.get? a=some o/\o.cls=.type "tuple" /\(∃n,o.data=.seq items n)/\o.dict=none
theorem TupD.isTup{h:Heap}{a:Addr}{items:Array Value}(x:TupD h a items):IsTup h a items:=let ⟨o,e,c,d,_⟩:=x;⟨o,e,c,d⟩
theorem TupD.lt{h:Heap}{a:Addr}{items:Array Value}(x:TupD h a items):a<h.objs.size:=x.isTup.lt
theorem TupD.new(h:Heap)(items:Array Value):TupD (h.push { cls:=.type "tuple",data:=.seq items }) h.objs.size items:=⟨_,Heap.get?_push_size _ rfl,rfl,⟨_,rfl⟩,rfl⟩
def zuj(oc:Obj)(q:Str):Prop:=∃vs t,oc.data=.fields vs/\vs[1]?=some (.str q t)
def zuk(H:Hp)(h:Heap)(a:Addr)(lab:Array Value):Prop:=∃(ps:Array Value) (q:Str) (t:Tok),lab = #[.str q t]/\h.get? a=some { cls:=.none,data:=.fields ps }/\TriplesOk ps.toList /\
 ∀pos cv,codeAmong pos ps.toList=some cv->∃c' oc u,cv=.ref c'/\H c'=some (.frz oc u)/\zuj oc q
section
variable (P:Program)(w:World)
def ObjOk(H:Hp)(h:Heap)(a:Addr):HO->Prop
 |.lst xs=>xs.length<=sizeLine/\∃(its:List Value) (n:Nat),Vals xs its/\h.get? a=some { cls:=.type "list",data:=.seq its.toArray n }
 |.tup xs=>xs.length<=sizeLine/\∃its:List Value,Vals xs its/\TupD h a its.toArray
 |.dK kvs=>kvs.length<=sizeLine/\(a == sysModules)=false/\∃vs,KV kvs vs/\h.DictOf (xg P w) a vs
 |.dT kvs=>kvs.length<=sizeLine/\(a == sysModules)=false/\∃xs:List (List Key×Addr×Value),
   Paired (λ(p:List Key×V) (q:List Key×Addr×Value)=>p.1=q.1/\H q.2.1=some (.tup (p.1.map kV))/\RelV p.2 q.2.2) kvs xs /\
   ∃o es ep,h.get? a=some o/\o.ExactDict/\o.data=.dict es ep/\es.toList=xs.map (entryOfKey (tupleKind (xg P w)))/\(xs.map (·.1)).Nodup
 |.set S n=>h.SetOf (intKind P w) a S n
 |.ins C dx fs=>H dx=some (.own a)/\fs.length<=1000/\dx≠a/\h.get? a=some (PySem.W.instObj C dx) /\
   ∃mA,h.Ns1 dx mA/\(∀f,RelO (fs.lookup f) (mA f))/\PySem.Within mA (fs.map (·.1))
 |.own _=>∃o,h.get? a=some o
 |.xd fs=>∃mA,h.Ns1 a mA/\∀f,RelO (fs.lookup f) (mA f)
 |.rng lo hi=>∃t u v,h.get? a=some { cls:=.type "range",data:=.fields #[.int lo t,.int hi u,.int 1 v] }
 |.frz o u=>h.get? a=some o/\ObjOk H h a u
 |.tbl ps=>zuk H h a ps
 |.met f x=>h.get? a=some (PySem.W.methodObj (.ref f) (.ref x))
 |.ext φ=>φ h/\(∃o,h.get? a=some o)/\∀h1 h2:Heap,φ h1->(∀o,h1.get? a=some o->h2.get? a=some o)->φ h2
def HOk(H:Hp)(h:Heap):Prop:=∀a o,H a=some o->ObjOk P w H h a o
end
section
variable {P:Program}{w:World}{H H':Hp}{h h':Heap}{a:Addr}{o:HO}
theorem ObjOk.lt(x:ObjOk P w H h a o):a<h.objs.size:=by
 cases o with
 |lst xs=>obtain⟨_,_,_,_,e⟩:=x;exact Heap.lt_size e
 |tup xs=>obtain⟨_,_,_,p⟩:=x;exact p.lt
 |dK kvs=>obtain⟨_,_,_,_,o,_,_,e,_⟩:=x;exact Heap.lt_size e
 |dT kvs=>obtain⟨_,_,_,_,o,_,_,e,_⟩:=x;exact Heap.lt_size e
 |set S n=>obtain⟨o,_,_,_,e,_⟩:=x;exact Heap.lt_size e
 |ins C dx fs=>obtain⟨_,_,_,e,_⟩:=x;exact Heap.lt_size e
 |own y=>obtain⟨_,e⟩:=x;exact Heap.lt_size e
 |xd fs=>obtain⟨_,⟨_,_,_,e,_⟩,_⟩:=x;exact Heap.lt_size e
 |rng lo hi=>obtain⟨_,_,_,e⟩:=x;exact Heap.lt_size e
 |frz ob u=>obtain⟨e,_⟩:=x;exact Heap.lt_size e
 |tbl ps=>obtain⟨_,_,_,_,e,_⟩:=x;exact Heap.lt_size e
 |met f y=>exact Heap.lt_size (show h.get? a=some _ from x)
 |ext φ=>obtain⟨_,⟨_,e⟩,_⟩:=x;exact Heap.lt_size e
theorem Paired.mapP{α β:Type}{F G:α->β->Prop}:∀{l₁:List α}{l₂:List β},Paired F l₁ l₂->(∀a b,F a b->G a b)->Paired G l₁ l₂
 |_,_,.nil,_=>.nil
 |_,_,.cons r t,f=>.cons (f _ _ r) (Paired.mapP t f)
theorem ObjOk.stay(x:ObjOk P w H h a o)(k:∀b u,(b=a\/H b=some (.own a))->h.get? b=some u->h'.get? b=some u)
  (ho:∀b,H b=some (.own a)->H' b=some (.own a)) (ht:∀b xs,H b=some (.tup xs)->H' b=some (.tup xs)) (hf:∀b o u,H b=some (.frz o u)->H' b=some (.frz o u):=by exact λ_ _ _ q=>q):ObjOk P w H' h' a o:=by
 induction o with
 |lst xs=>obtain⟨z,its,n,r,e⟩:=x;exact⟨z,its,n,r,k _ _ (.inl rfl) e⟩
 |tup xs=>obtain⟨z,its,r,ob,e,c⟩:=x;exact⟨z,its,r,ob,k _ _ (.inl rfl) e,c⟩
 |dK kvs=>obtain⟨z,y,vs,r,ob,es,ep,e,c⟩:=x;exact⟨z,y,vs,r,ob,es,ep,k _ _ (.inl rfl) e,c⟩
 |dT kvs=>
  obtain⟨z,y,xs,r,ob,es,ep,e,c⟩:=x;exact⟨z,y,xs,Paired.mapP r λp q z=>⟨z.1,ht _ _ z.2.1,z.2.2⟩,ob,es,ep,k _ _ (.inl rfl) e,c⟩
 |set S n=>obtain⟨ob,es,ep,t,e,c⟩:=x;exact⟨ob,es,ep,t,k _ _ (.inl rfl) e,c⟩
 |ins C dx fs=>
  obtain⟨d,z,ne,e,mA,⟨od,es,ep,e2,c⟩,r⟩:=x;exact⟨ho _ d,z,ne,k _ _ (.inl rfl) e,mA,⟨od,es,ep,k _ _ (.inr d) e2,c⟩,r⟩
 |own y=>obtain⟨ob,e⟩:=x;exact⟨ob,k _ _ (.inl rfl) e⟩
 |xd fs=>obtain⟨mA,⟨od,es,ep,e,c⟩,r⟩:=x;exact⟨mA,⟨od,es,ep,k _ _ (.inl rfl) e,c⟩,r⟩
 |rng lo hi=>obtain⟨t,u,v,e⟩:=x;exact⟨t,u,v,k _ _ (.inl rfl) e⟩
 |frz ob u ih=>obtain⟨e,q⟩:=x;exact⟨k _ _ (.inl rfl) e,ih q⟩
 |tbl ps=>
  obtain⟨rs,q,t,z,e,tr,r⟩:=x;exact⟨rs,q,t,z,k a _ (.inl rfl) e,tr,λpos cv y=>let ⟨c',oc,u,r1,r2,r3⟩:=r pos cv y;⟨c',oc,u,r1,hf _ _ _ r2,r3⟩⟩
 |met f y=>
  have e:h.get? a=some (PySem.W.methodObj (.ref f) (.ref y)):=x;show h'.get? a=some (PySem.W.methodObj (.ref f) (.ref y));exact k a _ (.inl rfl) e
 |ext φ=>obtain⟨p,⟨o,e⟩,st⟩:=x;exact⟨st _ _ p λo q=>k _ _ (.inl rfl) q,⟨o,k _ _ (.inl rfl) e⟩,st⟩
theorem HOk.lt(x:HOk P w H h)(e:H a=some o):a<h.objs.size:=(x a o e).lt
theorem HOk.fresh(x:HOk P w H h)(e:h.objs.size<=a):H a=none:=by
 cases q:H a with
 |none=>rfl
 |some u=>exact absurd (Nat.lt_of_lt_of_le (x.lt q) e) (Nat.lt_irrefl _)
theorem HOk.kept(x:HOk P w H h)(k:∀b u,h.get? b=some u->h'.get? b=some u):HOk P w H h':=λa o e=>
 (x a o e).stay (λb u _ q=>k b u q) (λ_ q=>q) λ_ _ q=>q
theorem HOk.laid(x:HOk P w H h)(k:∀b u,h.get? b=some u->h'.get? b=some u)(hp:h.objs.size<=a)(new:ObjOk P w (upd H a o) h' a o):HOk P w (upd H a o) h':=λb u e=>by
 have hn:=x.fresh hp
 by_cases hb:b=a
 ·subst hb;rw[zx]at e;cases e;exact new
 ·rw[zv hb]at e;exact(x b u e).stay (λc v _ q=>k c v q) (λc q=>by rw[zv (ym q hn)];exact q) (λc xs q=>by rw[zv (ym q hn)];exact q) λc _ _ q=>by rw[zv (ym q hn)];exact q
end
def Rd(H:Hp)(a:Addr)(u:HO):Prop:=H a=some u\/∃o,H a=some (.frz o u)
theorem Rd.of{H:Hp}{a:Addr}{u:HO}(h:H a=some u):Rd H a u:=.inl h
theorem Rd.ok{P:Program}{w:World}{H:Hp}{h:Heap}{a:Addr}{u:HO}(r:Rd H a u)(x:HOk P w H h):ObjOk P w H h a u:=by
 rcases r with r |⟨o,r⟩
 ·exact x a u r
 ·obtain⟨_,q⟩:=x a _ r;exact q
def Mut:Option HO->Prop
 |some (.lst _)=>True
 |some (.dK _)=>True
 |some (.dT _)=>True
 |some (.set _ _)=>True
 |some (.ins _ _ _)=>True
 |some (.ext _)=>True
 |_=>False
section
variable {P:Program}{w:World}{H:Hp}{h h':Heap}{x e:Addr}{o':HO}
theorem HOk.write(ok:HOk P w H h)(mu:Mut (H x))(he:e=x\/H e=some (.own x))(k:∀b u,b≠e->h.get? b=some u->h'.get? b=some u)(heo:∃u,h'.get? e=some u)
  (new:ObjOk P w (upd H x o') h' x o'):HOk P w (upd H x o') h':=λb u q=>by
 have nown:∀c y,H c=some (.own y)->c≠x:=λc y r z=>by subst z;rw[r]at mu;exact mu
 have ntup:∀c xs,H c=some (.tup xs)->c≠x:=λc xs r z=>by subst z;rw[r]at mu;exact mu
 have nfrz:∀c o u,H c=some (.frz o u)->c≠x:=λc o u r z=>by subst z;rw[r]at mu;exact mu
 by_cases hb:b=x
 ·subst hb;rw[zx]at q;cases q;exact new
 ·rw[zv hb]at q
  by_cases hbe:b=e
  ·have q':H b=some (.own x):=by
    rcases he with z|z
    ·exact absurd (hbe.trans z) hb
    ·rw[hbe];exact z
   rw[q]at q';cases q';obtain⟨v,hv⟩:=heo;exact⟨v,by rw[hbe];exact hv⟩
  ·refine(ok b u q).stay (λc v hc r=>k c v ?_ r) (λc r=>by rw[zv (nown c b r)];exact r) (λc xs r=>by rw[zv (ntup c xs r)];exact r) (λc o u r=>by rw[zv (nfrz c o u r)];exact r);rcases hc with rfl|hc
   ·exact hbe
   ·rintro rfl;rcases he with z|z
    ·exact nown c b hc z
    ·rw[hc]at z;cases z;exact hb rfl
end
structure Un(fs ex:List Addr)(H H':Hp)(h h':Heap):Prop where
 keep:∀b o,h.get? b=some o->H b=none->b∉fs->b∉ex->h'.get? b=some o
 slot:∀b o,h.get? b=some o->H b=none->b∈fs->b∉ex->∃sl,h'.get? b=some { o with slots:=sl }
 free:∀b o,h.get? b=some o->H b=none->b∉ex->H' b=none
 there:∀b o,h.get? b=some o->b∉ex->∃o',h'.get? b=some o'
 tups:∀b xs,H b=some (.tup xs)->H' b=some (.tup xs)
 frzs:∀b o u,H b=some (.frz o u)->H' b=some (.frz o u)
 tbls:∀b ps,H b=some (.tbl ps)->∃more,H' b=some (.tbl (ps++more))
section
variable {fs fs' ex ex':List Addr}{H H1 H2:Hp}{h h1 h2 h':Heap}{a x e:Addr}{o:HO}
theorem Un.any(u:Un fs ex H H1 h h1){b:Addr}{ob:Obj}(q:h.get? b=some ob)(n:H b=none)(hx:b∉ex):∃sl,h1.get? b=some { ob with slots:=sl }:=by
 by_cases hb:b∈fs
 ·exact u.slot b ob q n hb hx
 ·exact⟨ob.slots,u.keep b ob q n hb hx⟩
theorem Un.trans(a:Un fs ex H H1 h h1)(b:Un fs ex H1 H2 h1 h2):Un fs ex H H2 h h2 where
 keep:=λc ob q n hc hx=>b.keep c ob (a.keep c ob q n hc hx) (a.free c ob q n hx) hc hx
 slot:=λc ob q n hc hx=>by
  obtain⟨sl,e1⟩:=a.slot c ob q n hc hx;obtain⟨sl',e2⟩:=b.slot c _ e1 (a.free c ob q n hx) hc hx;exact⟨sl',e2⟩
 free:=λc ob q n hx=>by
  obtain⟨o',e1⟩:=a.there c ob q hx;exact b.free c o' e1 (a.free c ob q n hx) hx
 there:=λc ob q hx=>by
  obtain⟨o',e1⟩:=a.there c ob q hx;exact b.there c o' e1 hx
 tups:=λc xs q=>b.tups c xs (a.tups c xs q)
 frzs:=λc ob xs q=>b.frzs c ob xs (a.frzs c ob xs q)
 tbls:=λc ps q=>by
  obtain⟨m1,e1⟩:=a.tbls c ps q;obtain⟨m2,e2⟩:=b.tbls c _ e1;exact⟨m1++m2,by rw[e2,Array.append_assoc]⟩
theorem Un.kept(k:∀b u,h.get? b=some u->h'.get? b=some u):Un fs ex H H h h' :=
 ⟨λb ob q _ _ _=>k b ob q,λb ob q _ _ _=>⟨ob.slots,k b ob q⟩,λ_ _ _ n _=>n,λb ob q _=>⟨ob,k b ob q⟩,λ_ _ q=>q,λ_ _ _ q=>q,λ_ ps q=>⟨#[],by rw[q];simp⟩⟩
theorem Un.refl:Un fs ex H H h h:=Un.kept λ_ _ q=>q
theorem Un.laid(k:∀b u,h.get? b=some u->h'.get? b=some u)(hp:h.objs.size<=a)(hn:H a=none):Un fs ex H (upd H a o) h h' where
 keep:=λb u q _ _ _=>k b u q
 slot:=λb u q _ _ _=>⟨u.slots,k b u q⟩
 free:=λb u q n _=>by rw[zv (Nat.ne_of_lt (Nat.lt_of_lt_of_le (Heap.lt_size q) hp))];exact n
 there:=λb u q _=>⟨u,k b u q⟩
 tups:=λb xs q=>by rw[zv (ym q hn)];exact q
 frzs:=λb u xs q=>by rw[zv (ym q hn)];exact q
 tbls:=λb ps q=>⟨#[],by rw[zv (ym q hn),q];simp⟩
theorem Un.write(mu:Mut (H x))(he:e=x\/H e=some (.own x))(k:∀b u,b≠e->h.get? b=some u->h'.get? b=some u)(heo:∃u,h'.get? e=some u):Un fs ex H (upd H x o) h h':=by
 have hx:∀b,H b=none->b≠x:=λb n z=>by subst z;rw[n]at mu;exact mu
 have hb:∀b,H b=none->b≠e:=λb n z=>by
  subst z;rcases he with r|r
  ·exact hx b n r
  ·rw[n]at r;cases r
 have hm:∀b u,H b=some u->¬ Mut (some u)->b≠x:=λb u q nm z=>by subst z;rw[q]at mu;exact nm mu
 refine⟨λb u q n _ _=>k b u (hb b n) q,λb u q n _ _=>⟨u.slots,k b u (hb b n) q⟩,λb u q n _=>by rw[zv (hx b n)];exact n,λb u q _=>?_,
  λb xs q=>by rw[zv (hm b _ q λz=>z)];exact q,λb u xs q=>by rw[zv (hm b _ q λz=>z)];exact q,λb ps q=>⟨#[],by rw[zv (hm b _ q λz=>z),q];simp⟩⟩
 by_cases hbe:b=e
 ·subst hbe;exact heo
 ·exact⟨u,k b u hbe q⟩
theorem Un.mono(u:Un fs ex H H1 h h1)(hs:∀b∈fs,b∈fs')(hx:∀b∈ex,b∈ex'):Un fs' ex' H H1 h h1 :=
 ⟨λb ob q n hb he=>u.keep b ob q n (λz=>hb (hs b z)) λz=>he (hx b z),λ_ _ q n _ he=>u.any q n λz=>he (hx _ z),λb ob q n he=>u.free b ob q n λz=>he (hx b z),λb ob q he=>u.there b ob q λz=>he (hx b z),u.tups,u.frzs,u.tbls⟩
end
def trk(h:Heap)(H:Hp):List Addr:=(List.range h.objs.size).filter λa=>(H a).isSome
def zep(h:Heap)(H:Hp):Heap:=PySem.W.hideAll h (trk h H)
theorem zkt(h:Heap)(H:Hp):(zep h H).objs.size=h.objs.size:=PySem.W.hideAll_size _ _
theorem zl3{h:Heap}{H:Hp}{b:Addr}{o:Obj}(e:h.get? b=some o)(n:H b=none):(zep h H).get? b=some o :=
 PySem.W.hideAll_get _ e λhm=>by
  have q:(H b).isSome=true:=(List.mem_filter.mp hm).2;rw[n]at q;simp at q
theorem zou{h:Heap}{H:Hp}{b:Addr}{o:Obj}(e:(zep h H).get? b=some o):h.get? b=some o/\H b=none:=by
 have e':h.get? b=some o:=PySem.W.of_hideAll (trk h H) e;refine⟨e',?_⟩
 cases q:H b with
 |none=>rfl
 |some x=>
  have hm:b∈trk h H:=List.mem_filter.mpr ⟨List.mem_range.mpr (Heap.lt_size e'),by simp[q]⟩;have z:(zep h H).get? b=none:=PySem.W.hideAll_none (trk h H) hm;rw[z]at e;cases e
def zov(g h:Heap)(L:Addr):List (Addr×Obj):=(List.range h.objs.size).filterMap λa=>if a=L\/(g.get? a).isSome=true then none else (h.get? a).map λo=>(a,o)
def rest(g h:Heap)(L d:Addr):List (Addr×Obj):=(zov g h L).filter λp=>decide (p.1≠d)
structure Mod(K:PySem.W.Frag)(mg:Str->Option Value)(base:Heap):Prop where
 kin:K.In base
 glob:base.Ns mainGlobals mg
 blt:∃mb,base.Ns builtinsNs mb/\∀x:Str,x ≠ "__name__" -> mb x=bootBuiltins x
 nolimit:base.NoLimit
structure Cx where
 prog:Program
 w:World
 K:PySem.W.Frag
 mg:Str->Option Value
 base:Heap
 A:Around
 N:List Str
 s₀:Shared
 H₀:Hp
 env:Env
 outer:List Env
 stack:List Env
 ex:List Addr
 fn:Str->Bool
 calm:Bool
 pn:List (Addr×Obj)
 xe:Value->Shared->Prop
def frs(l:List Env):List Addr:=l.filterMap (·.frame)
abbrev Cx.fs(X:Cx):List Addr:=frs X.outer
def Vis(sc:Scope)(x:Str):Prop:=sc.names.lookup x=some .local\/sc.names.lookup x=some .cell\/sc.names.lookup x=some .free
def Loc(sc:Scope)(x:Str):Prop:=sc.names.lookup x=some .local\/sc.names.lookup x=some .cell
def zwu(env:Env)(h:Heap)(m:Str->Option Value)(x:Str)(u:Value):Prop :=
 (env.kindOf x=some .local/\m x=some u)\/((env.kindOf x=some .cell\/env.kindOf x=some .free)/\∃c,env.cells.lookup x=some c/\h.IsCell c (some u))
structure Cx.Ok(X:Cx):Prop where
 mod:Mod X.K X.mg X.base
 kind:X.env.scope.kind=.function
 glob:X.env.globals=mainGlobals
 blt:X.env.builtins=builtinsNs
 above:X.s₀.heap.objs.size<=X.env.locals
 inj:∀x y c,X.env.cells.lookup x=some c->X.env.cells.lookup y=some c->x=y
 has:∀x,(X.env.kindOf x=some .cell\/X.env.kindOf x=some .free)->∃c,X.env.cells.lookup x=some c
 cab:∀x c,X.fn x=true->X.env.cells.lookup x=some c->X.s₀.heap.objs.size<=c
 hd:X.calm=true->X.A.handled=none
 frames:X.A.frames=some X.stack
 stk:X.stack=X.outer\/(X.stack=X.env::X.outer/\X.env.frame=some X.env.locals)
 exf:∀b∈X.ex,b≠X.env.locals/\∀x c,X.env.cells.lookup x=some c->c≠b
 bs:∀b o,X.base.get? b=some o->X.s₀.heap.get? b=some o/\X.H₀ b=none
 bsz:X.base.objs.size<=X.s₀.heap.objs.size
 noex:∀b o,X.base.get? b=some o->b∉X.ex
 exfs:∀b∈X.ex,b∉X.fs
 funs:X.s₀.heap.FunFrames X.base X.outer
 frf:∀b∈X.fs,X.H₀ b=none
structure Inv(X:Cx)(pins:List (Addr×Obj))(σ:List (Option V))(H:Hp)(s:Shared):Prop where
 ok:X.Ok
 os:s.os=X.s₀.os
 bare:AllBare s.gens
 base:Un X.fs X.ex X.H₀ H X.s₀.heap s.heap
 loc:∃m,s.heap.Ns X.env.locals m/\∀(i:Nat) (x:Str) (v:V),X.N[i]?=some x->σ[i]?=some (some v)->Vis X.env.scope x->∃u,RelV v u/\zwu X.env s.heap m x u
 cell:∀x c,X.env.cells.lookup x=some c->∃v,s.heap.IsCell c v
 free:H X.env.locals=none
 freeC:∀x c,X.env.cells.lookup x=some c->H c=none
 pin:∀p∈X.pn++pins,s.heap.get? p.1=some p.2/\H p.1=none/\p.1≠X.env.locals/\p.1∉X.fs/\∀v,p.2.data ≠ .cell v
 hok:HOk X.prog X.w H s.heap
 len:σ.length=X.N.length
section
variable {X:Cx}{pins:List (Addr×Obj)}{σ:List (Option V)}{H H':Hp}{s:Shared}{h':Heap}
theorem Cx.Ok.nofr(ok:X.Ok){b:Addr}{o:Obj}(e:X.base.get? b=some o):b∉X.fs:=λhb=>by
 have:=(ok.funs.mem hb).1;rw[e]at this;cases this
theorem Inv.bs(I:Inv X pins σ H s):∀b o,X.base.get? b=some o->s.heap.get? b=some o/\H b=none:=λb o e=>
 ⟨I.base.keep b o (I.ok.bs b o e).1 (I.ok.bs b o e).2 (I.ok.nofr e) (I.ok.noex b o e),I.base.free b o (I.ok.bs b o e).1 (I.ok.bs b o e).2 (I.ok.noex b o e)⟩
theorem Inv.bk(I:Inv X pins σ H s):∀b o,X.base.get? b=some o->s.heap.get? b=some o:=λb o e=>(I.bs b o e).1
theorem Inv.mod(I:Inv X pins σ H s):Mod X.K X.mg X.base:=I.ok.mod
theorem Inv.kIn(I:Inv X pins σ H s):X.K.In s.heap:=I.ok.mod.kin.keeps I.bk
theorem Inv.fr(I:Inv X pins σ H s):∃m,Fr X.base X.env.locals s.heap m :=
 let ⟨m,hn,_⟩:=I.loc
 ⟨m,hn,I.bk,Nat.le_trans I.ok.bsz I.ok.above⟩
theorem Inv.lt(I:Inv X pins σ H s):X.env.locals<s.heap.objs.size:=let ⟨_,hn,_⟩:=I.loc;hn.lt
theorem Inv.sz(I:Inv X pins σ H s):X.s₀.heap.objs.size<=s.heap.objs.size:=Nat.le_trans I.ok.above (Nat.le_of_lt I.lt)
theorem Inv.nofs(I:Inv X pins σ H s){a:Addr}(h:s.heap.objs.size<=a):a∉X.fs:=λhb=>by
 obtain⟨_,o,ho,_⟩:=I.ok.funs.mem hb;exact absurd (Nat.lt_of_lt_of_le (Heap.lt_size ho) (Nat.le_trans I.sz h)) (Nat.lt_irrefl _)
theorem Inv.cne(I:Inv X pins σ H s):∀x c,X.env.cells.lookup x=some c->c≠X.env.locals:=λx c e z=>by
 obtain⟨v,o,ho,hd⟩:=I.cell x c e;obtain⟨m,⟨o',es,ep,ho',hd',_⟩,_⟩:=I.loc;rw[z,ho']at ho;cases ho;rw[hd']at hd;cases hd
theorem Inv.funs(I:Inv X pins σ H s):s.heap.FunFrames X.base X.outer:=by
 have all:∀(l:List Env),(∀b∈frs l,b∈X.fs)->X.s₀.heap.FunFrames X.base l->s.heap.FunFrames X.base l:=by
  intro l
  induction l with
  |nil=>intro _ _;trivial
  |cons env r ih=>
   intro hs hl;obtain⟨hk,⟨L,o,hf,hn,ho,hd⟩,hr⟩:=hl;have hL:L∈X.fs:=hs L (by unfold frs;rw[List.filterMap_cons,hf];exact List.mem_cons_self);obtain⟨sl,e⟩:=I.base.slot L o ho (I.ok.frf L hL) hL λz=>I.ok.exfs L z hL;exact⟨hk,⟨L,_,hf,hn,e,hd⟩,ih (λb hb=>hs b (by unfold frs;rw[List.filterMap_cons,hf];exact List.mem_cons_of_mem _ hb)) hr⟩
 exact all X.outer (λ_ hb=>hb) I.ok.funs
theorem Inv.stack(I:Inv X pins σ H s):s.heap.FunFrames X.base X.stack:=by
 rcases I.ok.stk with e |⟨e,hf⟩
 ·rw[e];exact I.funs
 ·rw[e];obtain⟨m,hn,_⟩:=I.loc;refine .cons (by rw[I.ok.kind];decide) hf hn ?_ I.funs;exact Heap.get?_none_of_le (Nat.le_trans I.ok.bsz I.ok.above)
theorem Inv.stkSub(I:Inv X pins σ H s):∀b∈frs X.stack,b∈X.env.locals::X.fs:=λb hb=>by
 rcases I.ok.stk with e |⟨e,hf⟩
 ·rw[e]at hb;exact List.mem_cons_of_mem _ hb
 ·rw[e]at hb;unfold frs at hb;rw[List.filterMap_cons,hf]at hb;exact hb
theorem Inv.stkFree(I:Inv X pins σ H s):∀b∈frs X.stack,H b=none:=λb hb=>by
 rcases List.mem_cons.mp (I.stkSub b hb) with e|hb
 ·rw[e];exact I.free
 ·obtain⟨_,o,ho,_⟩:=I.ok.funs.mem hb;exact I.base.free b o ho (I.ok.frf b hb) λz=>I.ok.exfs b z hb
theorem Inv.step{g':Array GenState}{t':Nat}{d':Drawn}{ch:List Addr}(I:Inv X pins σ H s)
  (hch:∀b∈ch,(b∈X.ex\/X.s₀.heap.objs.size<=b)/\b≠X.env.locals/\(∀x c,X.env.cells.lookup x=some c->c≠b)/\∀p∈X.pn++pins,p.1≠b)
  (keep:∀b o,b≠X.env.locals->b∉X.fs->b∉ch->s.heap.get? b=some o->H b=none->h'.get? b=some o)
  (slot:∀b o,b≠X.env.locals->b∈X.fs->b∉ch->s.heap.get? b=some o->H b=none->∃sl,h'.get? b=some { o with slots:=sl }) (free:∀b o,b∉ch->s.heap.get? b=some o->H b=none->H' b=none)
  (there:∀b o,b∉ch->s.heap.get? b=some o->∃o',h'.get? b=some o')
  (tups:∀b xs,H b=some (.tup xs)->H' b=some (.tup xs)) (frzs:∀b o u,H b=some (.frz o u)->H' b=some (.frz o u)) (tbls:∀b ps,H b=some (.tbl ps)->∃more,H' b=some (.tbl (ps++more)))
  (ns:∀m,s.heap.Ns X.env.locals m->h'.Ns X.env.locals m) (hok:HOk X.prog X.w H' h') (hg:AllBare g') :
  Inv X pins σ H' { s with heap:=h',gens:=g',drawn:=d',toks:=t' }:=by
 have neL:∀b o,X.s₀.heap.get? b=some o->b≠X.env.locals:=λb o e=>Nat.ne_of_lt (Nat.lt_of_lt_of_le (Heap.lt_size e) I.ok.above);have neC:∀b o,X.s₀.heap.get? b=some o->b∉X.ex->b∉ch:=λb o e hx hb=>by
  rcases (hch b hb).1 with z|z
  ·exact hx z
  ·exact absurd (Nat.lt_of_lt_of_le (Heap.lt_size e) z) (Nat.lt_irrefl _)
 have cellK:∀x c,X.env.cells.lookup x=some c->∀v,s.heap.IsCell c v->h'.IsCell c v:=λx c e v ⟨o,ho,hd⟩=>by
  have nch:c∉ch:=λz=>(hch c z).2.2.1 x c e rfl
  by_cases hc:c∈X.fs
  ·obtain⟨sl,q⟩:=slot c o (I.cne x c e) hc nch ho (I.freeC x c e);exact⟨_,q,hd⟩
  ·exact⟨o,keep c o (I.cne x c e) hc nch ho (I.freeC x c e),hd⟩
 refine⟨I.ok,I.os,hg,⟨λb o e n hb hx=>?_,λb o e n hb hx=>?_,λb o e n hx=>?_,λb o e hx=>?_,λb xs e=>tups b xs (I.base.tups b xs e),λb o xs e=>frzs b o xs (I.base.frzs b o xs e),λb ps e=>?_⟩,?_,λx c e=>?_,?_,λx c e=>?_,λp hp=>?_,hok,I.len⟩
 ·exact keep b o (neL b o e) hb (neC b o e hx) (I.base.keep b o e n hb hx) (I.base.free b o e n hx)
 ·obtain⟨sl,e1⟩:=I.base.slot b o e n hb hx;obtain⟨sl',e2⟩:=slot b _ (neL b o e) hb (neC b o e hx) e1 (I.base.free b o e n hx);exact⟨sl',e2⟩
 ·obtain⟨o',e1⟩:=I.base.there b o e hx;exact free b o' (neC b o e hx) e1 (I.base.free b o e n hx)
 ·obtain⟨o',e1⟩:=I.base.there b o e hx;exact there b o' (neC b o e hx) e1
 ·obtain⟨m1,e1⟩:=I.base.tbls b ps e;obtain⟨m2,e2⟩:=tbls b _ e1;exact⟨m1++m2,by rw[e2,Array.append_assoc]⟩
 ·obtain⟨m,hn,hl⟩:=I.loc;refine⟨m,ns m hn,λi x v e1 e2 e3=>?_⟩;obtain⟨u,r,l⟩:=hl i x v e1 e2 e3;refine⟨u,r,?_⟩;rcases l with l |⟨k,c,e,z⟩
  ·exact .inl l
  ·exact .inr ⟨k,c,e,cellK x c e _ z⟩
 ·obtain⟨v,z⟩:=I.cell x c e;exact⟨v,cellK x c e v z⟩
 ·obtain⟨m,⟨o,_,_,ho,_⟩,_⟩:=I.loc;exact free _ o (λz=>(hch _ z).2.1 rfl) ho I.free
 ·obtain⟨v,o,ho,hd⟩:=I.cell x c e;exact free c o (λz=>(hch c z).2.2.1 x c e rfl) ho (I.freeC x c e)
 ·obtain⟨e,n,ne,nf,d⟩:=I.pin p hp;have nch:p.1∉ch:=λz=>(hch p.1 z).2.2.2 p hp rfl;exact⟨keep p.1 p.2 ne nf nch e n,free p.1 p.2 nch e n,ne,nf,d⟩
theorem Inv.un{t':Nat}(I:Inv X pins σ H s)(u:Un X.fs [] H H' s.heap h')(hok:HOk X.prog X.w H' h'):Inv X pins σ H' { s with heap:=h',toks:=t' }:=by
 obtain⟨m,⟨o,es,ep,ho,r⟩,_⟩:=id I.loc;obtain⟨sl,hL⟩:=u.any ho I.free (by simp);exact I.step (g':=s.gens) (d':=s.drawn) (ch:=[]) (λ_ z=>nomatch z) (λb o _ hb _ e n=>u.keep b o e n hb (by simp)) (λb o _ hb _ e n=>u.slot b o e n hb (by simp)) (λb o _ e n=>u.free b o e n (by simp)) (λb o _ e=>u.there b o e (by simp)) u.tups u.frzs u.tbls (λm' hm=>by
  obtain⟨o',es',ep',ho',r'⟩:=hm;rw[ho]at ho';cases ho';exact⟨_,es',ep',hL,r'⟩) hok I.bare
theorem Inv.call{g':Array GenState}{t':Nat}{d':Drawn}{ch:List Addr}(I:Inv X pins σ H s)(u:Un (frs X.stack) ch H H' s.heap h')(hok:HOk X.prog X.w H' h')(hg:AllBare g')
  (hch:∀b∈ch,(b∈X.ex\/X.s₀.heap.objs.size<=b)/\b≠X.env.locals/\(∀x c,X.env.cells.lookup x=some c->c≠b)/\∀p∈X.pn++pins,p.1≠b) :
  Inv X pins σ H' { s with heap:=h',gens:=g',drawn:=d',toks:=t' }:=by
 obtain⟨m,⟨o,es,ep,ho,r⟩,_⟩:=id I.loc;obtain⟨sl,hL⟩:=u.any ho I.free λz=>(hch _ z).2.1 rfl;exact I.step (ch:=ch) hch (λb o hL hb hc e n=>u.keep b o e n (λz=>(List.mem_cons.mp (I.stkSub b z)).elim hL hb) hc) (λb o _ _ hc e n=>u.any e n hc) (λb o hc e n=>u.free b o e n hc) (λb o hc e=>u.there b o e hc) u.tups u.frzs u.tbls (λm' hm=>by
  obtain⟨o',es',ep',ho',r'⟩:=hm;rw[ho]at ho';cases ho';exact⟨_,es',ep',hL,r'⟩) hok hg
theorem Inv.turned{t':Nat}{it:Addr}(I:Inv X pins σ H s)(k:∀b o,b≠it->s.heap.get? b=some o->h'.get? b=some o)(hn:H it=none)(hL:it≠X.env.locals)
  (h1:it∈X.ex\/X.s₀.heap.objs.size<=it) (h2:∀x c,X.env.cells.lookup x=some c->c≠it) (h3:∀p∈X.pn++pins,p.1≠it):Inv X pins σ H { s with heap:=h',toks:=t' }:=by
 have nit:∀b u,H b=some u->b≠it:=λb u e z=>by rw[z,hn]at e;cases e
 refine I.step (g':=s.gens) (d':=s.drawn) (ch:=[it]) (λb hb=>?_) (λb o _ _ hc e _=>k b o (λz=>hc (by simp[z])) e) (λb o _ _ hc e _=>⟨o.slots,k b o (λz=>hc (by simp[z])) e⟩) (λ_ _ _ _ n=>n)
  (λb o hc e=>⟨o,k b o (λz=>hc (by simp[z])) e⟩) (λ_ _ e=>e) (λ_ _ _ e=>e) (λb ps e=>⟨#[],by rw[e];simp⟩) (λm hm=>?_) (λb u e=>?_) I.bare
 ·have e:b=it:=by simpa using hb
  subst e;exact⟨h1,hL,h2,h3⟩
 ·obtain⟨o,es,ep,ho,r⟩:=hm;exact⟨o,es,ep,k _ o (Ne.symm hL) ho,r⟩
 ·refine(I.hok b u e).stay (λc v hc q=>k c v ?_ q) (λ_ q=>q) λ_ _ q=>q;rcases hc with z|z
  ·rw[z];exact nit b u e
  ·exact nit c _ z
theorem Inv.tok(I:Inv X pins σ H s)(t:Nat):Inv X pins σ H { s with toks:=t }:=I.un (h':=s.heap) (t':=t) Un.refl I.hok
theorem Inv.kept{t':Nat}(I:Inv X pins σ H s)(k:∀b u,s.heap.get? b=some u->h'.get? b=some u):Inv X pins σ H { s with heap:=h',toks:=t' }:=I.un (Un.kept k) (I.hok.kept k)
theorem Inv.laid{a:Addr}{o:HO}{t':Nat}(I:Inv X pins σ H s)(k:∀b u,s.heap.get? b=some u->h'.get? b=some u)(hp:s.heap.objs.size<=a)(new:ObjOk X.prog X.w (upd H a o) h' a o):
  Inv X pins σ (upd H a o) { s with heap:=h',toks:=t' }:=I.un (Un.laid k hp (I.hok.fresh hp)) (I.hok.laid k hp new)
theorem Inv.write{x e:Addr}{o:HO}{t':Nat}(I:Inv X pins σ H s)(mu:Mut (H x))(he:e=x\/H e=some (.own x))(k:∀b u,b≠e->s.heap.get? b=some u->h'.get? b=some u)(heo:∃u,h'.get? e=some u)
  (new:ObjOk X.prog X.w (upd H x o) h' x o):Inv X pins σ (upd H x o) { s with heap:=h',toks:=t' }:=I.un (Un.write mu he k heo) (I.hok.write mu he k heo new)
theorem Inv.pins_of{pins':List (Addr×Obj)}(I:Inv X pins σ H s)(h:∀p∈pins',s.heap.get? p.1=some p.2/\H p.1=none/\p.1≠X.env.locals/\p.1∉X.fs/\∀v,p.2.data ≠ .cell v):Inv X pins' σ H s :=
 ⟨I.ok,I.os,I.bare,I.base,I.loc,I.cell,I.free,I.freeC,λp hp=>(List.mem_append.mp hp).elim (λz=>I.pin p (List.mem_append_left _ z)) (h p),I.hok,I.len⟩
theorem zf1{N:List Str}(hN:N.Nodup){i j:Nat}{x:Str}(a:N[i]?=some x)(b:N[j]?=some x):i=j:=by
 obtain⟨h1,e1⟩:=List.getElem?_eq_some_iff.mp a;obtain⟨h2,e2⟩:=List.getElem?_eq_some_iff.mp b;exact(List.getElem_inj hN).mp (e1.trans e2.symm)
theorem zku{M:Model}{A:Around}{E:Value->Shared->Prop}{i:Nat}{x:Str}{v:V}{u:Value}{Q:Unit->Shared->Prop}(I:Inv X pins σ H s)(hN:X.N.Nodup)(hi:X.N[i]?=some x)(hx:Loc X.env.scope x)(r:RelV v u)
  (h:∀s',Inv X pins (σ.set i (some v)) H s'->(∃a,Heap.SameBut a s.heap s'.heap/\(a=X.env.locals\/X.env.cells.lookup x=some a))->Q () s') (hf:X.fn x=true\/X.env.scope.names.lookup x=some .local:=by first|exact .inl rfl|exact .inr rfl|assumption):wpAny M A (storeName X.env x u) Q E s:=by
 obtain⟨m,hn,hl⟩:=id I.loc;have hcls:(X.env.scope.kind == .class ||(X.env.scope.kind == .module && X.env.locals != X.env.globals))=false:=by rw[I.ok.kind];rfl
 have hiσ:i<σ.length:=by rw[I.len];exact(List.getElem?_eq_some_iff.mp hi).1
 have cne:=I.cne;have tracked:∀{a:Addr}{h':Heap},(∃o,s.heap.get? a=some o/\H a=none)->Heap.SameBut a s.heap h'->HOk X.prog X.w H h':=λ{a h'} ha hs b ob e=>by
  obtain⟨_,_,hfree⟩:=ha;refine(I.hok b ob e).stay (λc w' hc q=>(hs.2 c ?_).trans q) (λ_ q=>q) λ_ _ q=>q;rintro rfl;rcases hc with rfl|hc
  ·rw[hfree]at e;cases e
  ·rw[hfree]at hc;cases hc
 rcases hx with hk|hk
 ·refine wpAny_storeName_local hk hn (λh' hn' hs=>?_) hcls;obtain⟨oL,_,_,hoL,_⟩:=id hn;refine h _ ⟨I.ok,I.os,I.bare,⟨λb o e n hb hx=>?_,λb o e n hb hx=>?_,I.base.free,λb o e hx=>?_,I.base.tups,I.base.frzs,I.base.tbls⟩,⟨_,hn',λj y v' e1 e2 e3=>?_⟩,λy c e=>?_,I.free,I.freeC,λp hp=>?_,tracked ⟨oL,hoL,I.free⟩ hs,by simpa using I.len⟩ ⟨_,hs,.inl rfl⟩
  ·exact(hs.2 b (Nat.ne_of_lt (Nat.lt_of_lt_of_le (Heap.lt_size e) I.ok.above))).trans (I.base.keep b o e n hb hx)
  ·obtain⟨sl,e1⟩:=I.base.slot b o e n hb hx;exact⟨sl,(hs.2 b (Nat.ne_of_lt (Nat.lt_of_lt_of_le (Heap.lt_size e) I.ok.above))).trans e1⟩
  ·obtain⟨o',e1⟩:=I.base.there b o e hx;exact⟨o',(hs.2 b (Nat.ne_of_lt (Nat.lt_of_lt_of_le (Heap.lt_size e) I.ok.above))).trans e1⟩
  ·by_cases hj:j=i
   ·subst hj;rw[hi]at e1;cases e1;rw[List.getElem?_set_self hiσ]at e2
    cases e2;exact⟨u,r,.inl ⟨hk,by simp⟩⟩
   ·rw[List.getElem?_set_ne (Ne.symm hj)]at e2;obtain⟨u',r',q⟩:=hl j y v' e1 e2 e3;refine⟨u',r',?_⟩;rcases q with⟨k,e⟩ |⟨k,c,e,z⟩
    ·refine .inl ⟨k,?_⟩;have:y≠x:=λe=>hj (zf1 hN e1 (e ▸ hi));simp[this,e]
    ·exact .inr ⟨k,c,e,z.sameBut hs (cne y c e)⟩
  ·obtain⟨w',z⟩:=I.cell y c e;exact⟨w',z.sameBut hs (cne y c e)⟩
  ·obtain⟨e,n,ne,nf,d⟩:=I.pin p hp;exact⟨(hs.2 p.1 ne).trans e,n,ne,nf,d⟩
 ·have hfn:X.fn x=true:=by
   rcases hf with z|z
   ·exact z
   ·rw[z]at hk;cases hk
  obtain⟨c,hc⟩:=I.ok.has x (.inl hk);obtain⟨w',z⟩:=I.cell x c hc;refine wpAny_storeName_cell I.ok.kind hk hc z (λh' hc' hs=>?_);obtain⟨oc,hoc,hocd⟩:=id z;refine h { s with heap:=h' } ⟨I.ok,I.os,I.bare,⟨λb o e n hb hx=>?_,λb o e n hb hx=>?_,I.base.free,λb o e hx=>?_,I.base.tups,I.base.frzs,I.base.tbls⟩,⟨m,hn.sameBut hs (Ne.symm (cne x c hc)),λj y v' e1 e2 e3=>?_⟩,λy c' e=>?_,I.free,I.freeC,λp hp=>?_,tracked ⟨oc,hoc,I.freeC x c hc⟩ hs,by simpa using I.len⟩ ⟨c,hs,.inr hc⟩
  ·exact(hs.2 b (Nat.ne_of_lt (Nat.lt_of_lt_of_le (Heap.lt_size e) (I.ok.cab x c hfn hc)))).trans (I.base.keep b o e n hb hx)
  ·obtain⟨sl,e1⟩:=I.base.slot b o e n hb hx;exact⟨sl,(hs.2 b (Nat.ne_of_lt (Nat.lt_of_lt_of_le (Heap.lt_size e) (I.ok.cab x c hfn hc)))).trans e1⟩
  ·obtain⟨o',e1⟩:=I.base.there b o e hx;exact⟨o',(hs.2 b (Nat.ne_of_lt (Nat.lt_of_lt_of_le (Heap.lt_size e) (I.ok.cab x c hfn hc)))).trans e1⟩
  ·by_cases hj:j=i
   ·subst hj;rw[hi]at e1;cases e1;rw[List.getElem?_set_self hiσ]at e2
    cases e2;exact⟨u,r,.inr ⟨.inl hk,c,hc,hc'⟩⟩
   ·rw[List.getElem?_set_ne (Ne.symm hj)]at e2;obtain⟨u',r',q⟩:=hl j y v' e1 e2 e3;refine⟨u',r',?_⟩;rcases q with q |⟨k,c',e,z'⟩
    ·exact .inl q
    ·refine .inr ⟨k,c',e,z'.sameBut hs ?_⟩;rintro rfl;exact hj (zf1 hN e1 (I.ok.inj _ _ _ e hc ▸ hi))
  ·by_cases hcc:c'=c
   ·subst hcc;exact⟨_,hc'⟩
   ·obtain⟨w2,z2⟩:=I.cell y c' e;exact⟨w2,z2.sameBut hs hcc⟩
  ·obtain⟨e,n,ne,nf,d⟩:=I.pin p hp;refine⟨(hs.2 p.1 ?_).trans e,n,ne,nf,d⟩;intro q;rw[q,hoc]at e;have q':oc=p.2:=Option.some.inj e;exact d w' (by rw[<-q'];exact hocd)
theorem wj{M:Model}{A:Around}{E:Value->Shared->Prop}{i:Nat}{x:Str}{v:V}{u:Value}{Q:Unit->Shared->Prop}(I:Inv X pins σ H s)(hN:X.N.Nodup)(hi:X.N[i]?=some x)(hx:Loc X.env.scope x)(r:RelV v u)
  (h:∀s',Inv X pins (σ.set i (some v)) H s'->Q () s') (hf:X.fn x=true\/X.env.scope.names.lookup x=some .local:=by first|exact .inl rfl|exact .inr rfl|assumption):wpAny M A (storeName X.env x u) Q E s :=
 zku I hN hi hx r (λs' I' _=>h s' I') hf
theorem Inv.call'{s':Shared}{ch:List Addr}(I:Inv X pins σ H s)(ho:s'.os=s.os)(u:Un (frs X.stack) ch H H' s.heap s'.heap)(hok:HOk X.prog X.w H' s'.heap)(hg:AllBare s'.gens)
  (hch:∀b∈ch,(b∈X.ex\/X.s₀.heap.objs.size<=b)/\b≠X.env.locals/\(∀x c,X.env.cells.lookup x=some c->c≠b)/\∀p∈X.pn++pins,p.1≠b):Inv X pins σ H' s':=by
 obtain⟨h',g',d',t',o'⟩:=s';have e:o'=s.os:=ho;subst e;exact I.call (g':=g') (t':=t') (d':=d') u hok hg hch
end
abbrev XK:=Value->Option Addr->Hp->Prop
abbrev St:=List (Option V)
abbrev VK:=V->Hp->Prop
abbrev TE:=St->Hp->VK->Prop
abbrev TT:=St->Hp->(Bool->Hp->Prop)->Prop
abbrev TA:=St->Hp->(List V->Hp->Prop)->Prop
structure zhl where
 nx:St->Hp->Prop
 rt:VK
 bk:St->Hp->Prop:=λ_ _=>False
 ct:St->Hp->Prop:=λ_ _=>False
abbrev TS:=zhl->St->Hp->Prop
def EP(X:Cx)(pins:List (Addr×Obj))(σ:St)(Q:VK)(u:Value)(s':Shared):Prop:=∃v H',Inv X pins σ H' s'/\RelV v u/\Q v H'
def TP(X:Cx)(pins:List (Addr×Obj))(σ:St)(Q:Bool->Hp->Prop)(b:Bool)(s':Shared):Prop:=∃H',Inv X pins σ H' s'/\Q b H'
def AP(X:Cx)(pins:List (Addr×Obj))(σ:St)(Q:List V->Hp->Prop)(us:List Value)(s':Shared):Prop:=∃vs H',Inv X pins σ H' s'/\Vals vs us/\Q vs H'
def SP(X:Cx)(pins:List (Addr×Obj))(D:zhl)(f:Flow)(s':Shared):Prop :=
 match f with
 |.next=>∃σ' H',Inv X pins σ' H' s'/\D.nx σ' H'
 |.brk=>∃σ' H',Inv X pins σ' H' s'/\D.bk σ' H'
 |.cont=>∃σ' H',Inv X pins σ' H' s'/\D.ct σ' H'
 |.ret u=>∃v σ' H',Inv X pins σ' H' s'/\RelV v u/\D.rt v H'
def PE(X:Cx)(e:Expr)(t:TE):Prop :=
 ∀(pins:List (Addr×Obj)) (s:Shared) (σ:St) (H:Hp) (Q:VK),Inv X pins σ H s->t σ H Q->wpAny (model X.prog X.w) X.A (eval e X.env) (EP X pins σ Q) X.xe s
def PT(X:Cx)(e:Expr)(t:TT):Prop :=
 ∀(pins:List (Addr×Obj)) (s:Shared) (σ:St) (H:Hp) (Q:Bool->Hp->Prop),Inv X pins σ H s->t σ H Q->wpAny (model X.prog X.w) X.A (isTrue e X.env (eval e X.env)) (TP X pins σ Q) X.xe s
def PW(X:Cx)(e:Expr)(t:TT):Prop :=
 ∀(whole:Sem Value) (pins:List (Addr×Obj)) (s:Shared) (σ:St) (H:Hp) (Q:Bool->Hp->Prop),Inv X pins σ H s->t σ H Q->wpAny (model X.prog X.w) X.A (isTrue e X.env whole) (TP X pins σ Q) X.xe s
theorem PW.pt{X:Cx}{e:Expr}{t:TT}(h:PW X e t):PT X e t:=h _
def PA(X:Cx)(es:List Expr)(t:TA):Prop :=
 ∀(pos:Pos) (pins:List (Addr×Obj)) (s:Shared) (σ:St) (H:Hp) (Q:List V->Hp->Prop),Inv X pins σ H s->t σ H Q->wpAny (model X.prog X.w) X.A (spliced (backTo pos (starEach es X.env))) (AP X pins σ Q) X.xe s
def PS(X:Cx)(st:Stmt)(t:TS):Prop :=
 ∀(pins:List (Addr×Obj)) (s:Shared) (σ:St) (H:Hp) (D:zhl),Inv X pins σ H s->t D σ H->wpAny (model X.prog X.w) X.A (exec st X.env) (SP X pins D) X.xe s
def PSs(X:Cx)(st:List Stmt)(t:TS):Prop :=
 ∀(pins:List (Addr×Obj)) (s:Shared) (σ:St) (H:Hp) (D:zhl),Inv X pins σ H s->t D σ H->wpAny (model X.prog X.w) X.A (execs st X.env) (SP X pins D) X.xe s
theorem thn{α:Type}{t:Sem α}{Q Q':α->Shared->Prop}{M:Model}{A:Around}{E:Value->Shared->Prop}{s:Shared}(h:wpAny M A t Q E s)(hQ:∀a s,Q a s->Q' a s):wpAny M A t Q' E s:=wpAny_mono h hQ λ_ _ x=>x
section
variable {X:Cx}
def zul(i:Nat):TE:=λσ H Q=>∃v,σ[i]?=some (some v)/\Q v H
def tC(v:V):TE:=λ_ H Q=>Q v H
theorem x3{i:Nat}{x:Str}{pos:Pos}(hN:X.N[i]?=some x)(hv:Vis X.env.scope x)(hd:(x ==("__debug__" : Str))=false:=by decide)(hcd:(x ==("__classdict__" : Str))=false:=by decide):PE X (.Name x pos) (zul i):=by
 intro pins s σ H Q I h;obtain⟨v,e,h⟩:=h;obtain⟨m,hn,hl⟩:=I.loc;obtain⟨u,r,l⟩:=hl i x v hN e hv;have fin:EP X pins σ Q u s:=⟨v,H,I,r,h⟩
 rcases l with⟨hk,hm⟩ |⟨hk,c,hc,hcell⟩
 ·exact wpAny_Name (wpAny_loadName_local I.ok.kind hk hn hm fin) hd
 ·rcases hk with hk|hk
  ·exact wpAny_Name (wpAny_loadName_cell I.ok.kind hk hc hcell fin) hd
  ·exact wpAny_Name (wpAny_loadName_free I.ok.kind hk hc hcell fin hcd) hd
theorem xu{i j pos}:PE X (.Constant (.int i) j pos) (tC (.int i)):=λ_ _ _ H _ I h=>wpAny_Constant_int ⟨.int i,H,I.tok _,⟨_,rfl⟩,h⟩
theorem zum{b j pos}:PE X (.Constant (.bool b) j pos) (tC (.bl b)):=λ_ _ _ H _ I h=>Constant_bool ⟨.bl b,H,I,rfl,h⟩
theorem zrt{j pos}:PE X (.Constant .none j pos) (tC .non):=λ_ _ _ H _ I h=>Constant_none ⟨.non,H,I,rfl,h⟩
theorem zru{x j pos}:PE X (.Constant (.str x) j pos) (tC (.str x)):=λ_ _ _ H _ I h=>Calls.Constant_str ⟨.str x,H,I.tok _,⟨_,rfl⟩,h⟩
def Gl(X:Cx)(x:Str):Prop:=X.env.kindOf x=some .globalImplicit
theorem zje{E:Value->Shared->Prop}{pins:List (Addr×Obj)}{s:Shared}{σ:St}{H:Hp}{x:Str}{u:Value}{pos:Pos}{Q:Value->Shared->Prop}(I:Inv X pins σ H s)(hg:Gl X x)(hm:X.mg x=some u)(h:Q u s)
  (hd:(x ==("__debug__" : Str))=false:=by decide):wpAny (model X.prog X.w) X.A (eval (.Name x pos) X.env) Q E s :=
 Calls.Name_function_global I.ok.kind hg (Calls.loadGlobal_global (by rw[I.ok.glob];exact I.mod.glob.keeps I.bk) hm h) hd
theorem wk{E:Value->Shared->Prop}{pins:List (Addr×Obj)}{s:Shared}{σ:St}{H:Hp}{x:Str}{u:Value}{pos:Pos}{Q:Value->Shared->Prop}(I:Inv X pins σ H s)(hg:Gl X x)(hm:X.mg x=none)(hv:bootBuiltins x=some u)(h:Q u s)
  (hn:x ≠ "__name__" := by decide) (hd:(x ==("__debug__" : Str))=false:=by decide):wpAny (model X.prog X.w) X.A (eval (.Name x pos) X.env) Q E s:=by
 obtain⟨mb,h1,h2⟩:=I.mod.blt;exact Calls.Name_function_global I.ok.kind hg (Calls.loadGlobal_builtin (by rw[I.ok.glob];exact I.mod.glob.keeps I.bk) hm (by rw[I.ok.blt];exact h1.keeps I.bk) ((h2 x hn).trans hv) h) hd
theorem zow{x:Str}{v:V}{u:Value}{pos:Pos}(hg:Gl X x)(hm:X.mg x=some u)(r:RelV v u)(hd:(x ==("__debug__" : Str))=false:=by decide):PE X (.Name x pos) (tC v) :=
 λ_ _ _ H _ I h=>zje I hg hm ⟨v,H,I,r,h⟩ hd
theorem zox{x:Str}{v:V}{u:Value}{pos:Pos}(hg:Gl X x)(hm:X.mg x=none)(hv:bootBuiltins x=some u)(r:RelV v u)(hn:x ≠ "__name__" := by decide)(hd:(x ==("__debug__" : Str))=false:=by decide):PE X (.Name x pos) (tC v) :=
 λ_ _ _ H _ I h=>wk I hg hm hv ⟨v,H,I,r,h⟩ hn hd
variable {a b:Expr}{ta tb:TE}{pos:Pos}
variable {tA tB':TT}{rest:List Expr}
def zwv(t u:TT):TT:=λσ H Q=>t σ H λc H1=>if c=true then u σ H1 Q else Q false H1
theorem zoy(ha:PT X a tA):PW X (.BoolOp .And [a] pos) tA:=by
 intro wh pins s σ H Q I h;refine isTrue_and (thn (ha pins s σ H Q I h) λc s1 e=>?_)
 cases c with
 |true=>exact isTrue_and_nil e
 |false=>exact e
theorem zrv(ha:PT X a tA)(hb:PW X (.BoolOp .And (b::rest) pos) tB'):PW X (.BoolOp .And (a::b::rest) pos) (zwv tA tB'):=by
 intro wh pins s σ H Q I h;refine isTrue_and (thn (ha pins s σ H _ I h) λc s1 ⟨H1,I1,q1⟩=>?_)
 cases c with
 |true=>exact hb wh pins s1 σ H1 Q I1 q1
 |false=>exact⟨H1,I1,q1⟩
def zun(ta:TE):TE:=λσ H Q=>ta σ H λx H1=>∃c,x=.bl c/\Q (.bl (!c)) H1
theorem zrw(ha:PE X a ta):PE X (.UnaryOp .Not a pos) (zun ta):=by
 intro pins s σ H Q I h;refine UnaryOp_ (thn (ha pins s σ H _ I h) λv s1 ⟨x,H1,I1,r1,q1⟩=>?_);obtain⟨c,rfl,q1⟩:=q1
 cases r1;exact not_of (wpAny_truthy_bool ⟨.bl (!c),H1,I1,rfl,q1⟩)
def tIf(t:TT)(ta tb:TE):TE:=λσ H Q=>t σ H λc H1=>if c=true then ta σ H1 Q else tb σ H1 Q
theorem zl4{c:Expr}(hc:PT X c tA)(ha:PE X a ta)(hb:PE X b tb):PE X (.IfExp c a b pos) (tIf tA ta tb):=by
 intro pins s σ H Q I h;refine wpAny_IfExp (thn (hc pins s σ H _ I h) λd s1 ⟨H1,I1,q1⟩=>?_)
 cases d with
 |true=>exact ha pins s1 σ H1 Q I1 q1
 |false=>exact hb pins s1 σ H1 Q I1 q1
end
def SqL(K:PySem.W.Frag)(H:Hp)(a:Addr)(xs:List V):Prop :=
 Rd H a (.lst xs) \/
  ∃(o:Obj) (its:Array Value) (n:Nat),K.lookup a=some o/\o.cls=.type "list" /\ o.dict=none/\o.data=.seq its n/\its.size<=sizeLine/\Vals xs its.toList
def SqT(K:PySem.W.Frag)(H:Hp)(a:Addr)(xs:List V):Prop :=
 Rd H a (.tup xs) \/
  ∃(o:Obj) (its:Array Value) (n:Nat),K.lookup a=some o/\o.cls=.type "tuple" /\ o.dict=none/\o.data=.seq its n/\its.size<=sizeLine/\Vals xs its.toList
def zww:Value->Option V
 |.none=>some .non
 |.bool b=>some (.bl b)
 |.int i _=>some (.int i)
 |.str x _=>some (.str x)
 |.bytes b _=>some (.byt b)
 |.float b _=>some (.flt b)
 |.ref a=>some (.ref a)
 |.type n=>some (.ty n)
 |_=>none
theorem RelV.abs{x:V}{u:Value}(r:RelV x u):zww u=some x:=by
 cases x with
 |non=>cases r;rfl
 |bl _=>cases r;rfl
 |int _=>obtain⟨t,rfl⟩:=r;rfl
 |str _=>obtain⟨t,rfl⟩:=r;rfl
 |byt _=>obtain⟨t,rfl⟩:=r;rfl
 |flt _=>obtain⟨t,rfl⟩:=r;rfl
 |ref _=>cases r;rfl
 |ty _=>cases r;rfl
theorem RelV.inj{x y:V}{u:Value}(r:RelV x u)(q:RelV y u):x=y:=Option.some.inj (r.abs.symm.trans q.abs)
theorem Vals.inj{xs ys:List V}{us:List Value}(h:Vals xs us)(h':Vals ys us):xs=ys:=by
 induction h generalizing ys with
 |nil=>cases h';rfl
 |cons r t ih=>
  cases h' with
  |cons r' t'=>rw[r.inj r',ih t']
section
variable {X:Cx}{pins:List (Addr×Obj)}{σ:St}{H:Hp}{s:Shared}{a:Addr}{xs ys:List V}
theorem SqL.of{K:PySem.W.Frag}(h:H a=some (.lst xs)):SqL K H a xs:=.inl (.inl h)
theorem SqT.of{K:PySem.W.Frag}(h:H a=some (.tup xs)):SqT K H a xs:=.inl (.inl h)
theorem Inv.list(I:Inv X pins σ H s)(h:SqL X.K H a xs):∃its:List Value,Vals xs its/\PlainL s.heap a its.toArray/\xs.length<=sizeLine:=by
 rcases h with h |⟨o,its,n,hk,hc,hd,hs,hz,r⟩
 ·obtain⟨z,its,n,r,e⟩:=h.ok I.hok;exact⟨its,r,⟨_,n,e,rfl,rfl,rfl⟩,z⟩
 ·refine⟨its.toList,r,⟨o,n,I.kIn a o hk,hc,hd,by simpa using hs⟩,?_⟩;have e:=r.length;simp only[Array.length_toList]at e;omega
theorem Inv.tupleD(I:Inv X pins σ H s)(h:SqT X.K H a xs):∃its:List Value,Vals xs its/\TupD s.heap a its.toArray/\xs.length<=sizeLine:=by
 rcases h with h |⟨o,its,n,hk,hc,hd,hs,hz,r⟩
 ·obtain⟨z,its,r,p⟩:=h.ok I.hok;exact⟨its,r,p,z⟩
 ·refine⟨its.toList,r,⟨o,I.kIn a o hk,hc,⟨n,by simpa using hs⟩,hd⟩,?_⟩;have e:=r.length;simp only[Array.length_toList]at e;omega
theorem Inv.tuple(I:Inv X pins σ H s)(h:SqT X.K H a xs):∃its:List Value,Vals xs its/\IsTup s.heap a its.toArray/\xs.length<=sizeLine:=by
 obtain⟨its,r,p,z⟩:=I.tupleD h;exact⟨its,r,p.isTup,z⟩
theorem Inv.list_inj(I:Inv X pins σ H s)(h:SqL X.K H a xs)(h':SqL X.K H a ys):xs=ys:=by
 obtain⟨its,r,⟨o,n,e,_,_,d⟩,_⟩:=I.list h;obtain⟨its',r',⟨o',n',e',_,_,d'⟩,_⟩:=I.list h';rw[e]at e';cases e';rw[d]at d';injection d' with d1 _
 have:its=its':=by simpa using congrArg Array.toList d1
 subst this;exact r.inj r'
theorem Inv.tuple_inj(I:Inv X pins σ H s)(h:SqT X.K H a xs)(h':SqT X.K H a ys):xs=ys:=by
 obtain⟨its,r,⟨o,e,_,n,d⟩,_⟩:=I.tuple h;obtain⟨its',r',⟨o',e',_,n',d'⟩,_⟩:=I.tuple h';rw[e]at e';cases e';rw[d]at d';injection d' with d1 _
 have:its=its':=by simpa using congrArg Array.toList d1
 subst this;exact r.inj r'
end
abbrev Cx.wish(X:Cx)(E:Value->Shared->Prop):Cx:={ X with xe:=E }
abbrev Cx.nox(X:Cx):Cx:=X.wish λ_ _=>False
theorem Cx.Ok.wish{X:Cx}(ok:X.Ok)(E:Value->Shared->Prop):(X.wish E).Ok :=
 ⟨ok.mod,ok.kind,ok.glob,ok.blt,ok.above,ok.inj,ok.has,ok.cab,ok.hd,ok.frames,ok.stk,ok.exf,ok.bs,ok.bsz,ok.noex,ok.exfs,ok.funs,ok.frf⟩
theorem Cx.Ok.unwish{X:Cx}{E:Value->Shared->Prop}(ok:(X.wish E).Ok):X.Ok :=
 ⟨ok.mod,ok.kind,ok.glob,ok.blt,ok.above,ok.inj,ok.has,ok.cab,ok.hd,ok.frames,ok.stk,ok.exf,ok.bs,ok.bsz,ok.noex,ok.exfs,ok.funs,ok.frf⟩
section
variable {X:Cx}{pins:List (Addr×Obj)}{σ:St}{H:Hp}{s:Shared}{E:Value->Shared->Prop}
theorem Inv.wish(I:Inv X pins σ H s)(E:Value->Shared->Prop):Inv (X.wish E) pins σ H s:=⟨I.ok.wish E,I.os,I.bare,I.base,I.loc,I.cell,I.free,I.freeC,I.pin,I.hok,I.len⟩
theorem Inv.unwish(I:Inv (X.wish E) pins σ H s):Inv X pins σ H s:=⟨I.ok.unwish,I.os,I.bare,I.base,I.loc,I.cell,I.free,I.freeC,I.pin,I.hok,I.len⟩
theorem SP.unwish{D:zhl}{f:Flow}{s':Shared}(h:SP (X.wish E) pins D f s'):SP X pins D f s':=by
 cases f with
 |next=>obtain⟨σ',H',I,q⟩:=h;exact⟨σ',H',I.unwish,q⟩
 |brk=>obtain⟨σ',H',I,q⟩:=h;exact⟨σ',H',I.unwish,q⟩
 |cont=>obtain⟨σ',H',I,q⟩:=h;exact⟨σ',H',I.unwish,q⟩
 |ret u=>obtain⟨v,σ',H',I,r,q⟩:=h;exact⟨v,σ',H',I.unwish,r,q⟩
theorem PSs.nox{st:List Stmt}{t:TS}(h:PSs X.nox st t):PSs X st t:=λpins s σ H D I hw=>
 wpAny_mono (h pins s σ H D (I.wish _) hw) (λ_ _ q=>q.unwish) λ_ _ z=>False.elim z
end
section
variable {X:Cx}{st:Stmt}{rest:List Stmt}{t u:TS}{e:Expr}{te:TE}{pos:Pos}
def zuo:TS:=λD σ H=>D.nx σ H
def zwx(t u:TS):TS:=λD σ H=>t { D with nx:=u D } σ H
theorem zoz:PSs X [] zuo:=λ_ _ σ H _ I h=>wpAny_execs_nil ⟨σ,H,I,h⟩
theorem h8(h1:PS X st t)(h2:PSs X rest u):PSs X (st::rest) (zwx t u):=by
 intro pins s σ H D I h;refine wpAny_execs_cons (thn (h1 pins s σ H { D with nx:=u D } I h) λf s1 q=>?_)
 cases f with
 |next=>
  obtain⟨σ',H',I',q⟩:=q;exact h2 pins s1 σ' H' D I' q
 |ret v=>exact q
 |brk=>exact q
 |cont=>exact q
theorem zjf(h1:PS X st t):PSs X [st] t:=by
 intro pins s σ H D I h;refine wpAny_execs_cons (thn (h1 pins s σ H D I h) λf s1 q=>?_)
 cases f with
 |next=>exact wpAny_execs_nil q
 |ret v=>exact q
 |brk=>exact q
 |cont=>exact q
theorem Inv.quiet{pins:List (Addr×Obj)}{σ:St}{H:Hp}{s:Shared}(I:Inv X pins σ H s):interactive X.env=false:=by simp[interactive,I.ok.kind]
def zup(te:TE):TS:=λD σ H=>te σ H λ_ H1=>D.nx σ H1
theorem zjg(he:PE X e te)(hs:swapsWith e none pos.line X.env=pure false:=by rfl):PS X (.Expr e pos) (zup te):=by
 intro pins s σ H D I h;exact wpAny_Expr_any (thn (he pins s σ H _ I h) λv s1 ⟨x,H1,I1,r1,q1⟩=>⟨σ,H1,I1,q1⟩) I.quiet hs
def zwy(te:TE):TS:=λD σ H=>te σ H D.rt
theorem zb9(he:PE X e te):PS X (.Return (some e) pos) (zwy te):=by
 intro pins s σ H D I h;exact wpAny_Return_some (thn (he pins s σ H _ I h) λv s1 ⟨x,H1,I1,r1,q1⟩=>⟨x,σ,H1,I1,r1,q1⟩)
def zwz(c:TT)(t u:TS):TS:=λD σ H=>c σ H λb H1=>if b=true then t D σ H1 else u D σ H1
theorem zuq{c:Expr}{a b:List Stmt}{tc:TT}(hc:PT X c tc)(ha:PSs X a t)(hb:PSs X b u):PS X (.If c a b pos) (zwz tc t u):=by
 intro pins s σ H D I h;refine wpAny_If (thn (hc pins s σ H _ I h) λd s1 ⟨H1,I1,q1⟩=>?_)
 cases d with
 |true=>exact ha pins s1 σ H1 D I1 q1
 |false=>exact hb pins s1 σ H1 D I1 q1
end
abbrev TG:=V->St->Hp->(St->Hp->Prop)->Prop
abbrev TGs:=List V->St->Hp->(St->Hp->Prop)->Prop
def PG(X:Cx)(target:Expr)(t:TG):Prop :=
 ∀(pins:List (Addr×Obj)) (s:Shared) (σ:St) (H:Hp) (v:V) (u:Value) (Q:St->Hp->Prop),Inv X pins σ H s->RelV v u->t v σ H Q ->
  wpAny (model X.prog X.w) X.A (assign target X.env u) (λ_ s'=>∃σ' H',Inv X pins σ' H' s'/\Q σ' H') X.xe s
def PGs(X:Cx)(ts:List Expr)(t:TGs):Prop :=
 ∀(pins:List (Addr×Obj)) (s:Shared) (σ:St) (H:Hp) (vs:List V) (us:List Value) (Q:St->Hp->Prop),Inv X pins σ H s->Vals vs us->t vs σ H Q ->
  wpAny (model X.prog X.w) X.A (assignInOrder ((assignEach ts X.env).map (·.2)) us) (λ_ s'=>∃σ' H',Inv X pins σ' H' s'/\Q σ' H') X.xe s
abbrev zrx:=V->V->V->Hp->(Hp->Prop)->Prop
def zur(X:Cx)(t:zrx):Prop :=
 ∀(pins:List (Addr×Obj)) (s:Shared) (σ:St) (H:Hp) (o i v:V) (ov iv u:Value) (Q:Hp->Prop),Inv X pins σ H s->RelV o ov->RelV i iv->RelV v u->t o i v H Q ->
  wpAny (model X.prog X.w) X.A (setItem ov iv u) (λ_ s'=>∃H',Inv X pins σ H' s'/\Q H') X.xe s
section
variable {X:Cx}{pos:Pos}
def zus(i:Nat):TG:=λv σ H Q=>Q (σ.set i (some v)) H
def zw0(to ti:TE)(t:zrx):TG:=λv σ H Q=>to σ H λo H1=>ti σ H1 λi H2=>t o i v H2 λH3=>Q σ H3
theorem zl5{o i:Expr}{to ti:TE}{t:zrx}(ho:PE X o to)(hi:PE X i ti)(hs:zur X t)
  (ha:∀v,assign (.Subscript o i pos) X.env v=(do
   let ov <-holding [v] (eval o X.env)
   let iv <-holding [v,ov] (eval i X.env)
   standAt pos
   holding [v,ov,iv] (setItem ov iv v)
   release [v,ov,iv] []):=by intro _;rfl):PG X (.Subscript o i pos) (zw0 to ti t):=by
 intro pins s σ H v u Q I r h;rw[ha];refine wpAny_bind (wpAny_holding (thn (ho pins s σ H _ I h) λov s1 ⟨x,H1,I1,r1,q1⟩=>?_));refine wpAny_bind (wpAny_holding (thn (hi pins s1 σ H1 _ I1 q1) λiv s2 ⟨y,H2,I2,r2,q2⟩=>?_));refine wpAny_bind (wpAny_standAt (wpAny_bind (wpAny_holding (thn (hs pins s2 σ H2 x y v ov iv u _ I2 r1 r2 r q2) λ_ s3 ⟨H3,I3,q3⟩=>?_))));exact wpAny_release ⟨σ,H3,I3,q3⟩
def zut(te:TE)(g:TG):TS:=λD σ H=>te σ H λx H1=>g x σ H1 D.nx
theorem zhm{tg e:Expr}{te:TE}{g:TG}(he:PE X e te)(hg:PG X tg g)(hs:swapsWithSole [tg] e pos.line X.env=pure false:=by rfl)(hw:swappedStores [tg] e X.env=pure none:=by rfl)
  (h1:(assignEach [tg] X.env).map (·.2) = [assign tg X.env]:=by rfl):PS X (.Assign [tg] e pos) (zut te g):=by
 intro pins s σ H D I h;refine wpAny_Assign_stores (thn (he pins s σ H _ I h) λv s1 ⟨x,H1,I1,r1,q1⟩=>?_) hs hw;rw[h1];exact thn (hg pins s1 σ H1 x v _ I1 r1 q1) λ_ s2 q=>q
theorem zca{i:Nat}{x:Str}{e:Expr}{te:TE}{pos':Pos}(hN:X.N.Nodup)(hi:X.N[i]?=some x)(hx:Loc X.env.scope x)(he:PE X e te)(hs:swapsWith e (some (.Name x pos')) pos.line X.env=pure false:=by rfl)(hf:X.fn x=true\/X.env.scope.names.lookup x=some .local:=by first|exact .inl rfl|exact .inr rfl|assumption):
  PS X (.Assign [.Name x pos'] e pos) (zut te (zus i)):=by
 intro pins s σ H D I h;refine wpAny_Assign_Name (thn (he pins s σ H _ I h) λv s1 ⟨y,H1,I1,r1,q1⟩=>?_) hs;exact wj I1 hN hi hx r1 (λs2 I2=>⟨_,H1,I2,q1⟩) hf
def zw1(i j:Nat)(ta:TA):TS:=λD σ H=>ta σ H λvs H1=>∃v w,vs = [v,w]/\D.nx ((σ.set i (some v)).set j (some w)) H1
theorem zry{i j:Nat}{x y:Str}{a b:Expr}{ta:TA}{px py pt:Pos}{kt k2 pt2}(hc:X.calm=true)(hN:X.N.Nodup)(hi:X.N[i]?=some x)(hj:X.N[j]?=some y)(hij:i≠j)
  (hx:X.env.scope.names.lookup x=some .local) (hy:X.env.scope.names.lookup y=some .local) (ha:PA X [a,b] ta)
  (hw:swappedStores [.Tuple [.Name x px,.Name y py] kt pt] (.Tuple [a,b] k2 pt2) X.env=pure (some [x,y]))
  (hs:swapsWithSole [.Tuple [.Name x px,.Name y py] kt pt] (.Tuple [a,b] k2 pt2) pos.line X.env=pure false:=by rfl) :
  PS X (.Assign [.Tuple [.Name x px,.Name y py] kt pt] (.Tuple [a,b] k2 pt2) pos) (zw1 i j ta):=by
 intro pins s σ H D I h;rw[exec_Assign_arm];refine wpAny_bind (wpAny_standAt ?_);rw[hs];refine wpAny_bind (wpAny_pure ?_);rw[if_neg (by decide)];refine wpAny_bind (Tuple_ (thn (ha _ pins s σ H _ I h) λus s1 ⟨vs,H1,I1,r1,q1⟩=>?_));obtain⟨v,w,e1,q1⟩:=q1;subst e1;obtain⟨u1,u2,rfl,rv,rw'⟩:∃u1 u2,us = [u1,u2]/\RelV v u1/\RelV w u2:=by
  cases r1 with
  |cons p q=>
   cases q with
   |cons p' q'=>
    cases q';exact⟨_,_,rfl,p,p'⟩
 refine wpAny_newObj_type ?_ (by show 2<=sizeLine;decide);have I2:Inv X pins σ H1 { s1 with heap:=s1.heap.push { cls:=.type "tuple",data:=.seq [u1,u2].toArray } }:=I1.kept (t':=s1.toks) λb o e=>Heap.get?_push_of_some _ e;rw[hw];refine wpAny_bind (wpAny_pure ?_);show wpAny (model X.prog X.w) X.A (do rule "assign.swapped-stores";let items <-unpackItems (.ref s1.heap.objs.size) 2 none;assignInOrder [λv=>bindName X.env y v,λv=>bindName X.env x v] items.reverse;pure Flow.next) _ _ _;refine wpAny_bind (wpAny_rule (wpAny_bind (unpackItems_tuple (items:=#[u1,u2]) (I.ok.hd hc) (IsTup.new s1.heap _) λh' hx'=>?_)));have I3:=I2.kept (h':=h') (t':=s1.toks) λb o e=>hx' b o (Nat.ne_of_lt (Heap.lt_size e)) e;show wpAny _ _ (assignInOrder [λv=>bindName X.env y v,λv=>bindName X.env x v] [u2,u1] >>= λ_=>pure Flow.next) _ _ _;refine wpAny_bind (assignInOrder_cons (wpAny_bindName (wj I3 hN hj (.inl hy) rw' (λs2 I4=>?_) (.inr hy))));refine assignInOrder_cons (wpAny_bindName (wj I4 hN hi (.inl hx) rv (λs3 I5=>assignInOrder_nil (wpAny_pure ?_)) (.inr hx)));rw[List.set_comm _ _ (Ne.symm hij)]at I5;exact⟨_,H1,I5,q1⟩
end
section
variable {X:Cx}{pos:Pos}
def zrz(c:TT)(tb:TS):TS:=λD σ H=>∃W:Nat->St->Hp->Prop,(∃m,W m σ H)/\∀m σ H,W m σ H ->
 c σ H λb H1=>if b=true then ∃N:St->Hp->Prop,(∀σ' H',N σ' H'->∃m',m' < m/\W m' σ' H')/\tb { D with nx:=N,ct:=N,bk:=D.nx } σ H1 else D.nx σ H1
theorem zl6{c:Expr}{body:List Stmt}{tc:TT}{tb:TS}(hp:PassesOwn (model X.prog X.w) X.A X.env X.xe)(hc:PT X c tc)(hb:PSs X body tb):PS X (.While c body [] pos) (zrz tc tb):=by
 intro pins s σ H D I h;obtain⟨W,⟨m0,w0⟩,turn⟩:=h;refine wpAny_While (codeAny_whileLoop (λn s'=>∃σ' H',Inv X pins σ' H' s'/\W n σ' H') ?_ m0 ⟨σ,H,I,w0⟩);rintro n s1 ⟨σ1,H1,I1,w1⟩;refine wpAny_passesOwn hp (thn (hc pins s1 σ1 H1 _ I1 (turn n σ1 H1 w1)) λb s2 ⟨H2,I2,q2⟩=>?_)
 cases b with
 |true=>
  obtain⟨N,hN,q2⟩:=q2;rw[if_pos rfl];refine wpAny_passesOwn hp (thn (hb pins s2 σ1 H2 _ I2 q2) λf s3 q3=>?_)
  cases f with
  |next=>
   obtain⟨σ3,H3,I3,n3⟩:=q3;obtain⟨m',hm,w3⟩:=hN σ3 H3 n3;exact⟨m',hm,σ3,H3,I3,w3⟩
  |cont=>
   obtain⟨σ3,H3,I3,n3⟩:=q3;obtain⟨m',hm,w3⟩:=hN σ3 H3 n3;exact⟨m',hm,σ3,H3,I3,w3⟩
  |brk=>exact q3
  |ret v=>exact q3
 |false=>
  rw[if_neg Bool.false_ne_true];exact wpAny_execs_nil ⟨σ1,H2,I2,q2⟩
end
structure It where
 go:Nat->Hp->Prop
 yld:Nat->Hp->V->Hp->Prop
 stop:Nat->Hp->Prop
def FpOk(X:Cx)(pins:List (Addr×Obj))(H:Hp)(b:Addr):Prop :=
 H b=none/\b≠X.env.locals/\b∉X.fs/\(b∈X.ex\/X.s₀.heap.objs.size<=b)/\(∀x c,X.env.cells.lookup x=some c->c≠b)/\∀p∈X.pn++pins,p.1≠b
theorem Inv.fpOk{X:Cx}{pins:List (Addr×Obj)}{σ:St}{H H':Hp}{s:Shared}{b:Addr}(I:Inv X pins σ H s)(hb:s.heap.objs.size<=b)(hn:H' b=none):FpOk X pins H' b:=by
 refine⟨hn,Nat.ne_of_gt (Nat.lt_of_lt_of_le I.lt hb),I.nofs hb,.inr (Nat.le_trans I.sz hb),λx c e z=>?_,λp hp z=>?_⟩
 ·obtain⟨v,q⟩:=I.cell x c e;exact absurd (Nat.lt_of_lt_of_le q.lt (by rw[z];exact hb)) (Nat.lt_irrefl _)
 ·exact absurd (Nat.lt_of_lt_of_le (Heap.lt_size (I.pin p hp).1) (by rw[z];exact hb)) (Nat.lt_irrefl _)
structure zkv(P:Program)(w:World)(K:PySem.W.Frag)(tg:Expr)(J:It)(fp:List Addr)(it:Addr)(tn:Nat->Heap->Prop):Prop where
 mem:it∈fp
 obj:∀i h,tn i h->∀b∈fp,∃o,h.get? b=some o/\∀v,o.data ≠ .cell v
 keep:∀i h h',tn i h->(∀b∈fp,∀o,h.get? b=some o->h'.get? b=some o)->tn i h'
 item:∀(X:Cx),X.prog=P->X.w=w->X.K=K->X.calm=true->∀(i:Nat) (pins:List (Addr×Obj)) (s:Shared) (σ:St) (H:Hp) (E:Value->Shared->Prop),Inv X pins σ H s->(∀b∈fp,FpOk X pins H b)->tn i s.heap->J.go i H ->
  wpAny (model P w) X.A (pyNext (.ref it)) (λr s1=>∃u,r=some u /\
   wpAny (model P w) X.A (letOwnedTupleGo tg (.ref it) u) (λ_ s2=>∃x H',Inv X pins σ H' s2/\RelV x u/\J.yld i H x H'/\tn (i+1) s2.heap/\∀b∈fp,H' b=none) E s1) E s
 done:∀(X:Cx),X.prog=P->X.w=w->X.K=K->X.calm=true->∀(i:Nat) (pins:List (Addr×Obj)) (s:Shared) (σ:St) (H:Hp) (E:Value->Shared->Prop),Inv X pins σ H s->(∀b∈fp,FpOk X pins H b)->tn i s.heap->J.stop i H ->
  wpAny (model P w) X.A (pyNext (.ref it)) (λr s1=>r=none/\Inv X pins σ H s1) E s
 self:∀(A:Around) (i:Nat) (s:Shared) (Q:Value->Shared->Prop) (E:Value->Shared->Prop),tn i s.heap->Q (.ref it) s->wpAny (model P w) A (pyIter (.ref it)) Q E s
abbrev TI:=St->Hp->(It->Hp->Prop)->Prop
def PIE(X:Cx)(pins:List (Addr×Obj))(σ:St)(tg:Expr)(R:It->Hp->Prop)(itv:Value)(s2:Shared):Prop :=
 ∃(it:Addr) (fp:List Addr) (tn:Nat->Heap->Prop) (J:It) (H':Hp),itv=.ref it/\Inv X pins σ H' s2/\zkv X.prog X.w X.K tg J fp it tn/\tn 0 s2.heap/\(∀b∈fp,FpOk X pins H' b)/\R J H'
def PI(X:Cx)(tg iter:Expr)(wi:TI):Prop :=
 ∀(pins:List (Addr×Obj)) (s:Shared) (σ:St) (H:Hp) (R:It->Hp->Prop),Inv X pins σ H s->wi σ H R ->
  wpAny (model X.prog X.w) X.A (eval iter X.env) (λv s1=>wpAny (model X.prog X.w) X.A (pyIter v) (PIE X pins σ tg R) X.xe s1) X.xe s
theorem zl7{M:Model}{A:Around}{E:Value->Shared->Prop}{s:Shared}{tg:Expr}{it:Addr}{u:Value}{o:Obj}{n:String}{vs:Array Value}{Q:Unit->Shared->Prop}(ho:s.heap.get? it=some o)(hc:o.cls=.type n)(hd:o.data=.fields vs)
  (hn : ["enumerate", "zip", "dict_itemiterator", "dict_reverseitemiterator", "odict_iterator", "itertools.zip_longest", "itertools.pairwise"].contains n=false) (hQ:Q () s):wpAny M A (letOwnedTupleGo tg (.ref it) u) Q E s:=by
 unfold letOwnedTupleGo
 cases tg <;> first
  |exact wpAny_pure hQ
  |(cases u <;> first
    |exact wpAny_pure hQ
    |(refine wpAny_bind (wpAny_load ho ?_);rw[hc,hd];show wpAny M A (if (["enumerate", "zip", "dict_itemiterator", "dict_reverseitemiterator", "odict_iterator", "itertools.zip_longest", "itertools.pairwise"].contains n && vs[0]? == some (rawInt _))=true then _ else _) Q E s;rw[if_neg (by intro h;rw[hn,Bool.false_and]at h;cases h)];exact wpAny_pure hQ))
def Itl(K:PySem.W.Frag)(a:Addr):It :=
 ⟨λi H=>∃xs x,SqL K H a xs/\xs[i]?=some x,λi H x H'=>H'=H/\∀xs,SqL K H a xs->xs[i]?=some x,λi H=>∃xs,SqL K H a xs/\xs.length<=i⟩
def Itt(K:PySem.W.Frag)(a:Addr):It :=
 ⟨λi H=>∃xs x,SqT K H a xs/\xs[i]?=some x,λi H x H'=>H'=H/\∀xs,SqT K H a xs->xs[i]?=some x,λi H=>∃xs,SqT K H a xs/\xs.length<=i⟩
def Itr(lo:Int)(n:Nat):It:=⟨λi _=>i<n,λi H x H'=>H'=H/\x=.int (lo+i),λi _=>n<=i⟩
theorem zkw{P:Program}{w:World}{K:PySem.W.Frag}{tg:Expr}(a it:Addr):zkv P w K tg (Itl K a) [it] it (λi h=>h.IsListIter it a i) where
 mem:=by simp
 obj:=λi h st b hb=>by
  have e:b=it:=by simpa using hb
  subst e;obtain⟨o,e,c,d⟩:=st;exact⟨o,e,λv z=>by rw[d]at z;cases z⟩
 keep:=λi h h' st k=>st.at λo e=>k it (by simp) o e
 item:=by
  intro X hP hw hK hc i pins s σ H E I hf st hg;subst hP hw hK;obtain⟨xs,x,hq,hx⟩:=hg;obtain⟨its,rv,p,hz⟩:=I.list hq;obtain⟨u,hu,ru⟩:=rv.get hx;obtain⟨f0,f1,f2,f3,f4,f5⟩:=hf it (by simp);refine wpAny_pyNext_list_item st p.isList (x:=u) (by simpa using hu) λh' st' sb=>?_;have I1:Inv X pins σ H { s with heap:=h' }:=I.turned (t':=s.toks) (λb o hb e=>(sb.2 b hb).trans e) f0 f1 f3 f4 f5;obtain⟨o,e,c,d⟩:=id st';exact⟨u,rfl,zl7 (s:={ s with heap:=h' }) e c d (by decide) ⟨x,H,I1,ru,⟨rfl,λys hy=>by rw[I.list_inj hy hq];exact hx⟩,st',λb hb=>(hf b hb).1⟩⟩
 done:=by
  intro X hP hw hK hc i pins s σ H E I hf st hg;subst hP hw hK;obtain⟨xs,hq,hx⟩:=hg;obtain⟨its,rv,p,hz⟩:=I.list hq;obtain⟨f0,f1,f2,f3,f4,f5⟩:=hf it (by simp);have hl:=rv.length;exact wpAny_pyNext_list_end (I.ok.hd hc) st p.isList (by simp;omega) λh' eb=>⟨rfl,I.turned (t':=s.toks) (λb o hb e=>eb b o hb e) f0 f1 f3 f4 f5⟩
 self:=λ_ _ _ _ _ st h=>wpAny_pyIter_listiter st h
theorem zhn{P:Program}{w:World}{K:PySem.W.Frag}{tg:Expr}(a it:Addr):zkv P w K tg (Itt K a) [it] it (λi h=>h.IsTupleIter it a i) where
 mem:=by simp
 obj:=λi h st b hb=>by
  have e:b=it:=by simpa using hb
  subst e;obtain⟨o,e,c,d⟩:=st;exact⟨o,e,λv z=>by rw[d]at z;cases z⟩
 keep:=λi h h' st k=>st.at λo e=>k it (by simp) o e
 item:=by
  intro X hP hw hK hc i pins s σ H E I hf st hg;subst hP hw hK;obtain⟨xs,x,hq,hx⟩:=hg;obtain⟨its,rv,p,hz⟩:=I.tuple hq;obtain⟨u,hu,ru⟩:=rv.get hx;obtain⟨f0,f1,f2,f3,f4,f5⟩:=hf it (by simp);refine wpAny_pyNext_tuple_item st (show s.heap.IsTuple a its.toArray from p) (x:=u) (by simpa using hu) λh' st' sb=>?_;have I1:Inv X pins σ H { s with heap:=h' }:=I.turned (t':=s.toks) (λb o hb e=>(sb.2 b hb).trans e) f0 f1 f3 f4 f5;obtain⟨o,e,c,d⟩:=id st';exact⟨u,rfl,zl7 (s:={ s with heap:=h' }) e c d (by decide) ⟨x,H,I1,ru,⟨rfl,λys hy=>by rw[I.tuple_inj hy hq];exact hx⟩,st',λb hb=>(hf b hb).1⟩⟩
 done:=by
  intro X hP hw hK hc i pins s σ H E I hf st hg;subst hP hw hK;obtain⟨xs,hq,hx⟩:=hg;obtain⟨its,rv,p,hz⟩:=I.tuple hq;obtain⟨f0,f1,f2,f3,f4,f5⟩:=hf it (by simp);have hl:=rv.length;exact wpAny_pyNext_tuple_end (I.ok.hd hc) st (show s.heap.IsTuple a its.toArray from p) (by simp;omega) λh' eb=>⟨rfl,I.turned (t':=s.toks) (λb o hb e=>eb b o hb e) f0 f1 f3 f4 f5⟩
 self:=λ_ _ _ _ _ st h=>wpAny_pyIter_tupleiter st h
theorem zho{P:Program}{w:World}{K:PySem.W.Frag}{tg:Expr}(it:Addr)(lo:Int)(n:Nat):zkv P w K tg (Itr lo n) [it] it (λi h=>IsRangeIter h it (lo+(i:Nat) * 1) ((n:Int)-(i:Nat)) 1) where
 mem:=by simp
 obj:=λi h st b hb=>by
  have e:b=it:=by simpa using hb
  subst e;exact⟨_,st,λv z=>by
   have z':Data.fields _=Data.cell v:=z
   cases z'⟩
 keep:=λi h h' st k=>k it (by simp) _ st
 item:=by
  intro X hP hw hK hc i pins s σ H E I hf st hg;subst hP hw hK;obtain⟨f0,f1,f2,f3,f4,f5⟩:=hf it (by simp);have W:=Walks.range (prog:=X.prog) (w:=X.w) (I.ok.hd hc) it lo 1 n;refine W.item i s _ _ hg st λv h' tk hv st' kk=>?_;obtain⟨t,rfl⟩:=hv;have I1:Inv X pins σ H { s with heap:=h',toks:=tk }:=I.turned (λb o hb e=>kk b o (by simpa using hb) e) f0 f1 f3 f4 f5;refine⟨_,rfl,zl7 (s:={ s with heap:=h',toks:=tk }) (n := "range_iterator") st' rfl rfl (by decide) ⟨.int (lo+i),H,I1,⟨t,?_⟩,⟨rfl,rfl⟩,st',λb hb=>(hf b hb).1⟩⟩;rw[Int.mul_one]
 done:=by
  intro X hP hw hK hc i pins s σ H E I hf st hg;subst hP hw hK;obtain⟨f0,f1,f2,f3,f4,f5⟩:=hf it (by simp);exact wpAny_pyNext_range_end (I.ok.hd hc) st (by have:n<=i:=hg;omega) λh' eb=>⟨rfl,I.turned (t':=s.toks) (λb o hb e=>eb b o hb e) f0 f1 f3 f4 f5⟩
 self:=λ_ _ _ _ _ st h=>wpAny_pyIter_rangeiter st h
section
variable {X:Cx}{tg:Expr}
theorem zf2{pins:List (Addr×Obj)}{σ:St}{H:Hp}{s:Shared}{R:It->Hp->Prop}{E:Value->Shared->Prop}{lo hi:Int}{t u v:Tok}{tk:Nat}(I:Inv X pins σ H s)(h1 : -(2 ^ 62)<=lo)(h2:lo<2 ^ 62)(h3 : -(2 ^ 62)<=hi)(h4:hi<2 ^ 62)
  (q:R (Itr lo (hi-lo).toNat) H):wpAny (model X.prog X.w) X.A (pyIter (.ref s.heap.objs.size)) (PIE X pins σ tg R) E { s with heap:=s.heap.push { cls:=.type "range",data:=.fields #[.int lo t,.int hi u,.int 1 v] },toks:=tk }:=by
 refine wpAny_pyIter_range (IsRange.new ..) (small_one h1 h2 h3 h4) ?_;have I1:Inv X pins σ H { s with heap:=s.heap.push { cls:=.type "range",data:=.fields #[.int lo t,.int hi u,.int 1 v] },toks:=tk }:=I.kept λb o e=>Heap.get?_push_of_some _ e;refine⟨(s.heap.push { cls:=.type "range",data:=.fields #[.int lo t,.int hi u,.int 1 v] }).objs.size,[(s.heap.push { cls:=.type "range",data:=.fields #[.int lo t,.int hi u,.int 1 v] }).objs.size],_,_,H,rfl,
  I1.kept (t':=tk) λb o e=>Heap.get?_push_of_some _ e,zho _ lo (hi-lo).toNat,?_,λb hb=>?_,q⟩
 ·have e1:lo+((0:Nat):Int) * 1=lo:=by simp
  have e2:(((hi-lo).toNat:Nat):Int)-((0:Nat):Int)=Builtin.Range.rangeSize lo hi 1:=by rw[rangeSize_one];split <;> omega
  show IsRangeIter _ _ (lo+((0:Nat):Int) * 1) ((((hi-lo).toNat:Nat):Int)-((0:Nat):Int)) 1;rw[e1,e2];exact Heap.get?_push_size _ rfl
 ·have e:b=(s.heap.push { cls:=.type "range",data:=.fields #[.int lo t,.int hi u,.int 1 v] }).objs.size:=by simpa using hb
  subst e;exact I1.fpOk (Nat.le_refl _) (I1.hok.fresh (Nat.le_refl _))
def zuu(ta:TA):TI:=λσ H R=>ta σ H λvs H1=>∃j:Int,vs = [.int j]/\-(2 ^ 62)<=j/\j<2 ^ 62/\R (Itr 0 j.toNat) H1
def zuv(ta:TA):TI:=λσ H R=>ta σ H λvs H1=>∃i j:Int,vs = [.int i,.int j]/\(-(2 ^ 62)<=i/\i<2 ^ 62/\-(2 ^ 62)<=j/\j<2 ^ 62)/\R (Itr i (j-i).toNat) H1
theorem zkx{a:Expr}{ta:TA}{p pos:Pos}(hg:Gl X "range")(hm:X.mg "range" = none)(ha:PA X [a] ta)(hs:starEach [a] X.env = [(false,eval a X.env)]:=by rfl):PI X tg (.Call (.Name "range" p) [a] [] pos) (zuu ta):=by
 intro pins s σ H R I h;refine Call_ (wk I hg hm boot_range (PyProof.Rows.callWith_type1 (thn (ha pos pins s σ H _ I h) λus s1 ⟨vs,H1,I1,r1,q1⟩=>?_) hs rfl));obtain⟨j,e,q1,q2,q⟩:=q1;subst e
 cases r1 with
 |cons r rr=>
  cases rr;obtain⟨t,rfl⟩:=r;exact call_range_1 (zf2 I1 (by omega) (by omega) q1 q2 (by simpa using q))
theorem zky{a b:Expr}{ta:TA}{p pos:Pos}(hg:Gl X "range")(hm:X.mg "range" = none)(ha:PA X [a,b] ta)(hs:starEach [a,b] X.env = [(false,eval a X.env),(false,eval b X.env)]:=by rfl)(hs2:starEach [b] X.env = [(false,eval b X.env)]:=by rfl):
  PI X tg (.Call (.Name "range" p) [a,b] [] pos) (zuv ta):=by
 intro pins s σ H R I h;refine Call_ (wk I hg hm boot_range (PyProof.Rows.callWith_type1 (thn (ha pos pins s σ H _ I h) λus s1 ⟨vs,H1,I1,r1,q1⟩=>?_) (by rw[hs,hs2]) (by rw[hs2];rfl)));obtain⟨i,j,e,⟨q1,q2,q3,q4⟩,q⟩:=q1;subst e
 cases r1 with
 |cons r rr=>
  cases rr with
  |cons r' rr=>
   cases rr;obtain⟨t,rfl⟩:=r;obtain⟨t',rfl⟩:=r';exact call_range_2 (zf2 I1 q1 q2 q3 q4 q)
def zw2(wi:TI)(g:TG)(tb:TS):TS:=λD σ H=>wi σ H λJ H1=>∃W:Nat->Nat->St->Hp->Prop,(∃m,W 0 m σ H1)/\∀i m σ H,W i m σ H ->
 (J.stop i H/\D.nx σ H)\/(J.go i H/\∃N:St->Hp->Prop,(∀σ' H',N σ' H'->∃m',m' < m/\W (i+1) m' σ' H')/\∀x H',J.yld i H x H'->g x σ H' λσ2 H2=>tb { D with nx:=N,ct:=N,bk:=D.nx } σ2 H2)
def zcb(fp:List Addr)(h:Heap):List (Addr×Obj):=fp.filterMap λb=>(h.get? b).map λo=>(b,o)
theorem qb{fp:List Addr}{h:Heap}{b:Addr}{o:Obj}(hb:b∈fp)(e:h.get? b=some o):(b,o)∈zcb fp h:=List.mem_filterMap.mpr ⟨b,hb,by rw[e];rfl⟩
theorem zkz{fp:List Addr}{h:Heap}{p:Addr×Obj}(hp:p∈zcb fp h):p.1∈fp/\h.get? p.1=some p.2:=by
 obtain⟨b,hb,e⟩:=List.mem_filterMap.mp hp
 cases q:h.get? b with
 |none=>rw[q]at e;cases e
 |some o=>
  rw[q]at e;have e':(b,o)=p:=Option.some.inj e;subst e';exact⟨hb,q⟩
theorem Inv.pinned{pins:List (Addr×Obj)}{σ:St}{H:Hp}{s:Shared}{fp:List Addr}(I:Inv X pins σ H s)(hf:∀b∈fp,FpOk X pins H b)(ho:∀b∈fp,∃o,s.heap.get? b=some o/\∀v,o.data ≠ .cell v):Inv X (pins++zcb fp s.heap) σ H s :=
 I.pins_of λp hp=>(List.mem_append.mp hp).elim (λz=>I.pin p (List.mem_append_right _ z)) λz=>by
  obtain⟨hb,e⟩:=zkz z;obtain⟨f0,f1,f2,_⟩:=hf p.1 hb;obtain⟨o,e',d⟩:=ho p.1 hb;rw[e]at e';cases e';exact⟨e,f0,f1,f2,d⟩
theorem Inv.unpinned{pins pl:List (Addr×Obj)}{σ:St}{H:Hp}{s:Shared}(I:Inv X (pins++pl) σ H s):Inv X pins σ H s:=I.pins_of λp hp=>I.pin p (List.mem_append_right _ (List.mem_append_left _ hp))
theorem zr0{iter:Expr}{body:List Stmt}{wi:TI}{g:TG}{tb:TS}{pos:Pos}(hp:PassesOwn (model X.prog X.w) X.A X.env X.xe)(hc:X.calm=true)(hi:PI X tg iter wi)(hg:PG X tg g)(hb:PSs X body tb)
  (hs:∀x,foldedSetIterable iter X.env x=pure x:=by intro _;rfl):PS X (.For tg iter body [] pos) (zw2 wi g tb):=by
 intro pins s σ H D I h;refine wpAny_For (thn (hi pins s σ H _ I h) λv s1 h1=>thn h1 λitv s2 h2=>?_) hs;obtain⟨it,fp,tn,J,H2,e,I2,T,st2,f2,W,⟨m0,w0⟩,turn⟩:=h2;subst e
 -- what stays true of the iterator's objects through the loop
 have stat:∀{H':Hp},(∀b∈fp,H' b=none)->∀b∈fp,FpOk X pins H' b:=λhn b hb=>⟨hn b hb,(f2 b hb).2⟩
 refine codeAny_forLoop_any (λn s'=>∃i σ' H',Inv X pins σ' H' s'/\tn i s'.heap/\(∀b∈fp,H' b=none)/\W i n σ' H') ?_ m0 ⟨0,σ,H2,I2,st2,λb hb=>(f2 b hb).1,w0⟩;rintro n s3 ⟨i,σ3,H3,I3,st3,fr3,w3⟩;rcases turn i n σ3 H3 w3 with⟨stop,qn⟩ |⟨go,N,hN,step⟩
 ·refine wpAny_passesOwn hp (thn (T.done X rfl rfl rfl hc i pins s3 σ3 H3 X.xe I3 (stat fr3) st3 stop) λr s4 ⟨hr,I4⟩=>?_);subst hr;exact wpAny_execs_nil ⟨σ3,H3,I4,qn⟩
 ·refine wpAny_passesOwn hp (thn (T.item X rfl rfl rfl hc i pins s3 σ3 H3 X.xe I3 (stat fr3) st3 go) λr s4 ⟨u,hr,h4⟩=>?_);subst hr;refine wpAny_passesOwn hp (thn h4 λ_ s5 ⟨x,H5,I5,r5,y5,st5,fr5⟩=>?_);have I5':=I5.pinned (stat fr5) (T.obj _ _ st5);refine wpAny_passesOwn hp (thn (hg _ s5 σ3 H5 x u _ I5' r5 (step x H5 y5)) λ_ s6 ⟨σ6,H6,I6,q6⟩=>?_);refine wpAny_passesOwn hp (thn (hb _ s6 σ6 H6 _ I6 q6) λf s7 q7=>?_)
  have again:∀{σ7:St}{H7:Hp},Inv X (pins++zcb fp s5.heap) σ7 H7 s7->N σ7 H7->∃m,m<n/\∃i σ' H',Inv X pins σ' H' s7/\tn i s7.heap/\(∀b∈fp,H' b=none)/\W i m σ' H':=λ{σ7 H7} I7 n7=>by
   obtain⟨m',hm,w7⟩:=hN σ7 H7 n7;refine⟨m',hm,i+1,σ7,H7,I7.unpinned,T.keep _ _ _ st5 λb hb o e=>(I7.pin (b,o) (List.mem_append_right _ (List.mem_append_right _ (qb hb e)))).1,λb hb=>?_,w7⟩;obtain⟨o,e,d⟩:=T.obj _ _ st5 b hb;exact(I7.pin (b,o) (List.mem_append_right _ (List.mem_append_right _ (qb hb e)))).2.1
  cases f with
  |next=>obtain⟨σ7,H7,I7,n7⟩:=q7;exact again I7 n7
  |cont=>obtain⟨σ7,H7,I7,n7⟩:=q7;exact again I7 n7
  |brk=>obtain⟨σ7,H7,I7,q7⟩:=q7;exact⟨σ7,H7,I7.unpinned,q7⟩
  |ret v=>obtain⟨x7,σ7,H7,I7,r7,q7⟩:=q7;exact⟨x7,σ7,H7,I7.unpinned,r7,q7⟩
end
abbrev R2:=V->V->Hp->VK->Prop
def OpR(X:Cx)(f:Value->Value->Sem Value)(r:R2):Prop :=
 ∀(pins:List (Addr×Obj)) (s:Shared) (σ:St) (H:Hp) (x y:V) (v u:Value) (Q:VK),Inv X pins σ H s->RelV x v->RelV y u->r x y H Q ->
  wpAny (model X.prog X.w) X.A (f v u) (EP X pins σ Q) X.xe s
def UnR(X:Cx)(f:Value->Sem Value)(r:V->Hp->VK->Prop):Prop :=
 ∀(pins:List (Addr×Obj)) (s:Shared) (σ:St) (H:Hp) (x:V) (v:Value) (Q:VK),Inv X pins σ H s->RelV x v->r x H Q ->
  wpAny (model X.prog X.w) X.A (f v) (EP X pins σ Q) X.xe s
def xy(X:Cx)(f:Value)(r:List V->Hp->VK->Prop):Prop :=
 ∀(pins:List (Addr×Obj)) (s:Shared) (σ:St) (H:Hp) (xs:List V) (us:List Value) (Q:VK),Inv X pins σ H s->Vals xs us->r xs H Q ->
  wpAny (model X.prog X.w) X.A (call f us) (EP X pins σ Q) X.xe s
def zw3(X:Cx)(r:V->Hp->(Bool->Hp->Prop)->Prop):Prop :=
 ∀(pins:List (Addr×Obj)) (s:Shared) (σ:St) (H:Hp) (x:V) (v:Value) (Q:Bool->Hp->Prop),Inv X pins σ H s->RelV x v->r x H Q ->
  wpAny (model X.prog X.w) X.A (truthy v) (TP X pins σ Q) X.xe s
def tOp(r:R2)(ta tb:TE):TE:=λσ H Q=>ta σ H λx H1=>tb σ H1 λy H2=>r x y H2 Q
def tUn(r:V->Hp->VK->Prop)(ta:TE):TE:=λσ H Q=>ta σ H λx H1=>r x H1 Q
def rI(C:Int->Int->Prop)(g:Int->Int->V):R2:=λx y H Q=>∃i j,x=.int i/\y=.int j/\C i j/\Q (g i j) H
def rI0(g:Int->Int->V):R2:=λx y H Q=>∃i j,x=.int i/\y=.int j/\Q (g i j) H
def rU(g:Int->V):V->Hp->VK->Prop:=λx H Q=>∃i,x=.int i/\Q (g i) H
section
variable {X:Cx}{a b c:Expr}{ta tb tc:TE}{pos:Pos}
theorem zuw(ha:PE X a ta)(hb:PE X b tb){pins:List (Addr×Obj)}{s:Shared}{σ:St}{H:Hp}{R:V->V->Hp->Prop}(I:Inv X pins σ H s)
  (h:ta σ H λx H1=>tb σ H1 λy H2=>R x y H2) {Q:Value->Shared->Prop}{f:Value->Value->Sem Value}
  (hf:∀v u s2 x y H2,Inv X pins σ H2 s2->RelV x v->RelV y u->R x y H2->wpAny (model X.prog X.w) X.A (f v u) Q X.xe s2) :
  wpAny (model X.prog X.w) X.A (eval a X.env) (λv s₁=>wpAny (model X.prog X.w) X.A (eval b X.env) (λu s₂=>wpAny (model X.prog X.w) X.A (f v u) Q X.xe s₂) X.xe s₁) X.xe s:=by
 refine thn (ha pins s σ H _ I h) λv s1 ⟨x,H1,I1,r1,q1⟩=>?_;refine thn (hb pins s1 σ H1 _ I1 q1) λu s2 ⟨y,H2,I2,r2,q2⟩=>?_;exact hf v u s2 x y H2 I2 r1 r2 q2
theorem zf3{op:Operator}{r:R2}(ho:OpR X (binaryOp op) r)(ha:PE X a ta)(hb:PE X b tb):PE X (.BinOp a op b pos) (tOp r ta tb):=by
 intro pins s σ H Q I h;exact wpAny_BinOp (zuw ha hb I h λv u s2 x y H2 I2 rx ry q=>ho pins s2 σ H2 x y v u Q I2 rx ry q)
theorem zux{op:UnaryOp}{r:V->Hp->VK->Prop}(ho:UnR X (unaryOp op) r)(ha:PE X a ta):PE X (.UnaryOp op a pos) (tUn r ta):=by
 intro pins s σ H Q I h;exact UnaryOp_ (thn (ha pins s σ H _ I h) λv s1 ⟨x,H1,I1,r1,q1⟩=>ho pins s1 σ H1 x v Q I1 r1 q1)
theorem opI{f:Value->Value->Sem Value}{C:Int->Int->Prop}{g:Int->Int->Int}
  (rule:∀(i j:Int) (t u:Tok) (s:Shared) (Q:Value->Shared->Prop) (E:Value->Shared->Prop),C i j->Q (.int (g i j) s.toks) { s with toks:=s.toks+1 }->wpAny (model X.prog X.w) X.A (f (.int i t) (.int j u)) Q E s) :
  OpR X f (rI C λi j=>.int (g i j)):=by
 intro pins s σ H x y v u Q I rx ry h;obtain⟨i,j,rfl,rfl,hc,q⟩:=h;obtain⟨t,rfl⟩:=rx;obtain⟨t',rfl⟩:=ry;exact rule i j t t' s _ _ hc ⟨.int (g i j),H,I.tok _,⟨_,rfl⟩,q⟩
theorem zuy{f:Value->Value->Sem Value}{g:Int->Int->Int}
  (rule:∀(i j:Int) (t u:Tok) (s:Shared) (Q:Value->Shared->Prop) (E:Value->Shared->Prop),Q (.int (g i j) s.toks) { s with toks:=s.toks+1 }->wpAny (model X.prog X.w) X.A (f (.int i t) (.int j u)) Q E s) :
  OpR X f (rI0 λi j=>.int (g i j)):=by
 intro pins s σ H x y v u Q I rx ry h;obtain⟨i,j,rfl,rfl,q⟩:=h;obtain⟨t,rfl⟩:=rx;obtain⟨t',rfl⟩:=ry;exact rule i j t t' s _ _ ⟨.int (g i j),H,I.tok _,⟨_,rfl⟩,q⟩
theorem zo0{f:Value->Value->Sem Value}{g:Int->Int->Bool}
  (rule:∀(i j:Int) (t u:Tok) (s:Shared) (Q:Value->Shared->Prop) (E:Value->Shared->Prop),Q (.bool (g i j)) s->wpAny (model X.prog X.w) X.A (f (.int i t) (.int j u)) Q E s) :
  OpR X f (rI0 λi j=>.bl (g i j)):=by
 intro pins s σ H x y v u Q I rx ry h;obtain⟨i,j,rfl,rfl,q⟩:=h;obtain⟨t,rfl⟩:=rx;obtain⟨t',rfl⟩:=ry;exact rule i j t t' s _ _ ⟨.bl (g i j),H,I,rfl,q⟩
def zuz(i j:Int):Prop:=0<=j/\j<=1000000/\i.natAbs<2 ^ 64
def CMul(i j:Int):Prop:=(-(2 ^ 64)<i/\i<2 ^ 64)\/(-(2 ^ 64)<j/\j<2 ^ 64)
theorem CMul.ok{i j:Int}(h:CMul i j):IntMulOk i j:=by
 rcases h with⟨h1,h2⟩ |⟨h1,h2⟩
 ·exact .of_left (intBits_le_64 h1 h2)
 ·exact .of_right (intBits_le_64 h1 h2)
theorem zl8:OpR X (binaryOp .Add) (rI0 λi j=>.int (i+j)):=zuy λ_ _ _ _ _ _ _ q=>add_int q
theorem zr5:OpR X (binaryOp .Sub) (rI0 λi j=>.int (i-j)):=zuy λ_ _ _ _ _ _ _ q=>sub_int q
theorem zr7:OpR X (binaryOp .Mult) (rI CMul λi j=>.int (i * j)):=opI λ_ _ _ _ _ _ _ hc q=>mul_int q hc.ok
theorem zhp:OpR X (binaryOp .Mod) (rI (λ_ j=>0<j) λi j=>.int (i % j)):=opI λi j _ _ _ _ _ hc q=>by
 have h1:(0:Int)<j:=hc;exact mod_int' (by omega) (by rw[Int.fmod_eq_emod_of_nonneg i (by omega)];exact q)
theorem zr8:OpR X (binaryOp .Pow) (rI zuz λi j=>.int (i ^ j.toNat)):=opI λ_ _ _ _ _ _ _ hc q=>pow_int_small hc.1 hc.2.1 hc.2.2 q
theorem unI{f:Value->Sem Value}{g:Int->Int}
  (rule:∀(i:Int) (t:Tok) (s:Shared) (Q:Value->Shared->Prop) (E:Value->Shared->Prop),Q (.int (g i) s.toks) { s with toks:=s.toks+1 }->wpAny (model X.prog X.w) X.A (f (.int i t)) Q E s) :
  UnR X f (rU λi=>.int (g i)):=by
 intro pins s σ H x v Q I rx h;obtain⟨i,rfl,q⟩:=h;obtain⟨t,rfl⟩:=rx;exact rule i t s _ _ ⟨.int (g i),H,I.tok _,⟨_,rfl⟩,q⟩
theorem zsa:UnR X (unaryOp .USub) (rU λi=>.int (-i)):=unI λ_ _ _ _ _ q=>neg_int q
end
def zsb:V->V->Bool
 |.non,.non=>true|.non,.int _=>true|.int _,.non=>true|.non,.bl _=>true|.bl _,.non=>true|.non,.str _=>true|.str _,.non=>true
 |.int _,.int _=>true|.bl _,.bl _=>true|.str _,.str _=>true|.byt _,.byt _=>true
 |.int _,.str _=>true|.str _,.int _=>true|.bl _,.str _=>true|.str _,.bl _=>true
 |_,_=>false
def rEq:R2:=λx y H Q=>zsb x y=true/\Q (.bl (decide (x=y))) H
def rNe:R2:=λx y H Q=>zsb x y=true/\Q (.bl (!decide (x=y))) H
theorem zjh{i j:Int}:decide (V.int i=V.int j)=(i == j):=by
 rw[Bool.eq_iff_iff];simp
theorem zl9{i j:Bool}:decide (V.bl i=V.bl j)=(i == j):=by
 rw[Bool.eq_iff_iff];simp
theorem zji{i j:Str}:decide (V.str i=V.str j)=(i == j):=by
 rw[Bool.eq_iff_iff];simp
theorem zjj{i j:Array UInt8}:decide (V.byt i=V.byt j)=(i.toList == j.toList):=by
 rw[Bool.eq_iff_iff]
 cases i
 cases j;simp
section
variable {X:Cx}{a b c:Expr}{ta tb tc:TE}{pos:Pos}
theorem yp{pins:List (Addr×Obj)}{σ:St}{H:Hp}{s:Shared}{Q:VK}{k k':Bool}(I:Inv X pins σ H s)(q:Q (.bl k) H)(e:k=k'):EP X pins σ Q (.bool k') s:=by
 subst e;exact⟨.bl k,H,I,rfl,q⟩
theorem zqz:OpR X (compareOp .Eq) rEq:=by
 intro pins s σ H x y v u Q I rx ry h;obtain⟨hs,q⟩:=h
 cases x with
 |non=>
  cases rx
  cases y with
  |non=>cases ry;exact PySem.EqNone.eq_none_none (yp I q (by simp))
  |bl j=>cases ry;exact PySem.EqNone.eq_none_bool (yp I q (by simp))
  |int j=>obtain⟨t',rfl⟩:=ry;exact PySem.EqNone.eq_none_int (yp I q (by simp))
  |str j=>obtain⟨t',rfl⟩:=ry;exact PySem.EqNone.eq_none_str (yp I q (by simp))
  |_=>exact absurd (show false=true from hs) Bool.false_ne_true
 |bl i=>
  cases rx
  cases y with
  |non=>cases ry;exact PySem.EqNone.eq_bool_none (yp I q (by simp))
  |bl j=>cases ry;exact eq_bool (yp I q zl9)
  |str j=>obtain⟨t',rfl⟩:=ry;exact PySem.EqMixed.eq_bool_str (yp I q (by simp))
  |_=>exact absurd (show false=true from hs) Bool.false_ne_true
 |int i=>
  obtain⟨t,rfl⟩:=rx
  cases y with
  |non=>cases ry;exact PySem.EqNone.eq_int_none (yp I q (by simp))
  |int j=>obtain⟨t',rfl⟩:=ry;exact eq_int (yp I q zjh)
  |str j=>obtain⟨t',rfl⟩:=ry;exact PySem.EqMixed.eq_int_str (yp I q (by simp))
  |_=>exact absurd (show false=true from hs) Bool.false_ne_true
 |str i=>
  obtain⟨t,rfl⟩:=rx
  cases y with
  |non=>cases ry;exact PySem.EqNone.eq_str_none (yp I q (by simp))
  |bl j=>cases ry;exact PySem.EqMixed.eq_str_bool (yp I q (by simp))
  |int j=>obtain⟨t',rfl⟩:=ry;exact PySem.EqMixed.eq_str_int (yp I q (by simp))
  |str j=>obtain⟨t',rfl⟩:=ry;exact eq_str (yp I q zji)
  |_=>exact absurd (show false=true from hs) Bool.false_ne_true
 |byt i=>
  obtain⟨t,rfl⟩:=rx
  cases y with
  |byt j=>obtain⟨t',rfl⟩:=ry;exact PySem.W.eq_bytes (yp I q zjj)
  |_=>exact absurd (show false=true from hs) Bool.false_ne_true
 |_=>cases y <;> exact absurd (show false=true from hs) Bool.false_ne_true
theorem zu0:OpR X (compareOp .NotEq) rNe:=by
 intro pins s σ H x y v u Q I rx ry h;obtain⟨hs,q⟩:=h
 cases x with
 |non=>
  cases rx
  cases y with
  |non=>cases ry;exact PySem.EqNone.ne_none_none (yp I q (by simp))
  |bl j=>cases ry;exact PySem.EqNone.ne_none_bool (yp I q (by simp))
  |int j=>obtain⟨t',rfl⟩:=ry;exact PySem.EqNone.ne_none_int (yp I q (by simp))
  |str j=>obtain⟨t',rfl⟩:=ry;exact PySem.EqNone.ne_none_str (yp I q (by simp))
  |_=>exact absurd (show false=true from hs) Bool.false_ne_true
 |bl i=>
  cases rx
  cases y with
  |non=>cases ry;exact PySem.EqNone.ne_bool_none (yp I q (by simp))
  |bl j=>cases ry;exact ne_bool (yp I q (congrArg not zl9))
  |str j=>obtain⟨t',rfl⟩:=ry;exact PySem.EqMixed.ne_bool_str (yp I q (by simp))
  |_=>exact absurd (show false=true from hs) Bool.false_ne_true
 |int i=>
  obtain⟨t,rfl⟩:=rx
  cases y with
  |non=>cases ry;exact PySem.EqNone.ne_int_none (yp I q (by simp))
  |int j=>obtain⟨t',rfl⟩:=ry;exact ne_int (yp I q (congrArg not zjh))
  |str j=>obtain⟨t',rfl⟩:=ry;exact PySem.EqMixed.ne_int_str (yp I q (by simp))
  |_=>exact absurd (show false=true from hs) Bool.false_ne_true
 |str i=>
  obtain⟨t,rfl⟩:=rx
  cases y with
  |non=>cases ry;exact PySem.EqNone.ne_str_none (yp I q (by simp))
  |bl j=>cases ry;exact PySem.EqMixed.ne_str_bool (yp I q (by simp))
  |int j=>obtain⟨t',rfl⟩:=ry;exact PySem.EqMixed.ne_str_int (yp I q (by simp))
  |str j=>obtain⟨t',rfl⟩:=ry;exact ne_str (yp I q (congrArg not zji))
  |_=>exact absurd (show false=true from hs) Bool.false_ne_true
 |byt i=>
  obtain⟨t,rfl⟩:=rx
  cases y with
  |byt j=>obtain⟨t',rfl⟩:=ry;exact PySem.W.ne_bytes (yp I q (congrArg not zjj))
  |_=>exact absurd (show false=true from hs) Bool.false_ne_true
 |_=>cases y <;> exact absurd (show false=true from hs) Bool.false_ne_true
theorem zu1:OpR X (compareOp .Lt) (rI0 λi j=>.bl (decide (i<j))):=zo0 λ_ _ _ _ _ _ _ q=>lt_int q
theorem zu2:OpR X (compareOp .LtE) (rI0 λi j=>.bl (decide (i<=j))):=zo0 λ_ _ _ _ _ _ _ q=>le_int q
theorem zq3:OpR X (compareOp .Gt) (rI0 λi j=>.bl (decide (j<i))):=zo0 λ_ _ _ _ _ _ _ q=>gt_int q
theorem zu3:OpR X (compareOp .GtE) (rI0 λi j=>.bl (decide (j<=i))):=zo0 λ_ _ _ _ _ _ _ q=>ge_int q
theorem zo1:OpR X (compareOp .IsNot) (λx y H Q=>y=.non/\Q (.bl (!decide (x=.non))) H):=by
 intro pins s σ H x y v u Q I rx ry h;obtain⟨rfl,q⟩:=h
 cases ry;refine isnot_none_gen (yp I q ?_)
 cases x <;> first
  |(cases rx;rfl)
  |(obtain⟨t,rfl⟩:=rx;rfl)
theorem yg(b:Expr){op:CmpOp}(h:op ≠ .In:=by decide)(h2:op ≠ .NotIn:=by decide):behindInMarks op b=false:=by
 have e1:(op == CmpOp.In)=false:=by cases op <;> first|rfl|exact absurd rfl h
 have e2:(op == CmpOp.NotIn)=false:=by cases op <;> first|rfl|exact absurd rfl h2
 cases b <;> simp[behindInMarks,e1,e2]
def zu4(t:TE):TT:=λσ H Q=>t σ H λx H'=>∃k,x=.bl k/\Q k H'
theorem zjk{op:CmpOp}{r:R2}(ho:OpR X (compareOp op) r)(ha:PE X a ta)(hb:PE X b tb)(hm:behindInMarks op b=false):PT X (.Compare a [op] [b] pos) (zu4 (tOp r ta tb)):=by
 intro pins s σ H Q I h;refine wpAny_isTrue_Compare1 (thn (ha pins s σ H _ I h) λv s1 ⟨x,H1,I1,r1,q1⟩=>thn (hb pins s1 σ H1 _ I1 q1) λu s2 ⟨y,H2,I2,r2,q2⟩=>
  thn (ho pins s2 σ H2 x y v u _ I2 r1 r2 q2) λc s3 ⟨z,H3,I3,r3,k,e,q3⟩=>?_) hm
 subst e
 cases r3;exact wpAny_truthy_bool ⟨H3,I3,q3⟩
def zsc(K:PySem.W.Frag)(x:V)(H:Hp)(k:Bool):Prop :=
 match x with
 |.non=>k=false
 |.bl b=>k=b
 |.int i=>k=(i != 0)
 |.str y=>y.length<=sizeLine/\k=((y.length:Int) != 0)
 |.byt y=>y.size<=sizeLine/\k=((y.size:Int) != 0)
 |.ref p=>(∃xs,SqL K H p xs/\k = !xs.isEmpty)\/(∃xs,SqT K H p xs/\k = !xs.isEmpty)\/∃kvs,H p=some (.dK kvs)/\k = !kvs.isEmpty
 |_=>False
theorem zhq{κ:Type}{kvs:List (κ×V)}{vs:List (κ×Value)}(r:KV kvs vs):(!vs.isEmpty) = !kvs.isEmpty:=by
 cases r <;> rfl
theorem zcc{xs:List V}{its:List Value}(r:Vals xs its):(!its.toArray.isEmpty) = !xs.isEmpty:=by
 cases r <;> simp
theorem jv:(sizeLine:Nat)<2 ^ 63:=by rw[sizeLine_eq];decide
theorem zsd:zw3 X (λx H Q=>∃k,zsc X.K x H k/\Q k H):=by
 intro pins s σ H x v Q I rx h;obtain⟨k,e,q⟩:=h;have hl:=jv;have hs:sizeLine=16777216:=sizeLine_eq
 cases x with
 |non=>
  cases rx;have e':k=false:=e;subst e';exact truthy_none ⟨H,I,q⟩
 |bl b=>
  cases rx;have e':k=b:=e;subst e';exact wpAny_truthy_bool ⟨H,I,q⟩
 |int i=>
  obtain⟨t,rfl⟩:=rx;have e':k=(i != 0):=e;subst e';exact PySem.P.truthy_int ⟨H,I,q⟩
 |str y=>
  obtain⟨t,rfl⟩:=rx;obtain⟨hy,e'⟩:y.length<=sizeLine/\k=((y.length:Int) != 0):=e;subst e';exact PySem.P.truthy_str (by omega) ⟨H,I.tok _,q⟩
 |byt y=>
  obtain⟨t,rfl⟩:=rx;obtain⟨hy,e'⟩:y.size<=sizeLine/\k=((y.size:Int) != 0):=e;subst e';exact PySem.W.truthy_bytes (by omega) ⟨H,I.tok _,q⟩
 |ref p=>
  cases rx;have e':(∃xs,SqL X.K H p xs/\k = !xs.isEmpty)\/(∃xs,SqT X.K H p xs/\k = !xs.isEmpty)\/∃kvs,H p=some (.dK kvs)/\k = !kvs.isEmpty:=e;rcases e' with⟨xs,hx,e'⟩ |⟨xs,hx,e'⟩ |⟨kvs,hx,e'⟩
  ·subst e';obtain⟨its,r,pl,hz⟩:=I.list hx;have hlen:=r.length;exact wpAny_truthy_list pl.isList (by simp only[List.size_toArray];omega) ⟨H,I.tok _,by rw[zcc r];exact q⟩
  ·subst e';obtain⟨its,r,pl,hz⟩:=I.tuple hx;have hlen:=r.length;exact truthy_tuple pl (by simp only[List.size_toArray];omega) ⟨H,I.tok _,by rw[zcc r];exact q⟩
  ·subst e';obtain⟨hz,hS,vs,r,m⟩:kvs.length<=sizeLine/\(p == sysModules)=false/\∃vs,KV kvs vs/\s.heap.DictOf (xg X.prog X.w) p vs:=I.hok p _ hx;have hlen:kvs.length=vs.length:=Paired.length r;exact wpAny_truthy_dict hS m (by omega) ⟨H,I.tok _,by rw[zhq r];exact q⟩
 |_=>exact(show False from e).elim
theorem zma(ha:PE X a ta)(he:∀whole,isTrue a X.env whole=(do let v <-whole;standAt a.pos;holding [v] (truthy v))):
  PT X a (λσ H Q=>ta σ H λx H'=>∃k,zsc X.K x H' k/\Q k H'):=by
 intro pins s σ H Q I h;exact isTrue_plain (thn (ha pins s σ H _ I h) λv s1 ⟨x,H1,I1,r1,q1⟩=>zsd pins s1 σ H1 x v Q I1 r1 q1) (he _)
theorem zhr:OpR X (binaryOp .Add) (λx y H Q=>∃i j,x=.str i/\y=.str j/\i.length+j.length<=sizeLine/\Q (.str (i++j)) H):=by
 intro pins s σ H x y v u Q I rx ry h;obtain⟨i,j,rfl,rfl,hz,q⟩:=h;obtain⟨t,rfl⟩:=rx;obtain⟨t',rfl⟩:=ry;exact add_str (λt' tk=>⟨.str (i++j),H,I.tok _,⟨_,rfl⟩,q⟩) hz
theorem zdq{x:V}{us:List Value}(r:Vals [x] us):∃u,us = [u]/\RelV x u:=by
 cases r with
 |cons r1 r2=>cases r2;exact⟨_,rfl,r1⟩
theorem zq4{x y:V}{us:List Value}(r:Vals [x,y] us):∃u w',us = [u,w']/\RelV x u/\RelV y w':=by
 cases r with
 |cons r1 r2=>
  cases r2 with
  |cons r3 r4=>cases r4;exact⟨_,_,rfl,r1,r3⟩
theorem zk0(hc:X.calm=true):xy X (.builtin "max") (λxs H Q=>∃i j,xs = [.int i,.int j]/\Q (.int (if j > i then j else i)) H):=by
 intro pins s σ H xs us Q I r h;obtain⟨i,j,rfl,q⟩:=h;obtain⟨u,w',rfl,⟨t,rfl⟩,⟨t',rfl⟩⟩:=zq4 r;refine max_two_ints (I.ok.hd hc) λh' tk k=>⟨_,H,I.kept k,?_,q⟩
 by_cases hj:j > i
 ·rw[if_pos hj,if_pos hj];exact⟨_,rfl⟩
 ·rw[if_neg hj,if_neg hj];exact⟨_,rfl⟩
theorem zk1(hc:X.calm=true):xy X (.builtin "min") (λxs H Q=>∃i j,xs = [.int i,.int j]/\Q (.int (if j<i then j else i)) H):=by
 intro pins s σ H xs us Q I r h;obtain⟨i,j,rfl,q⟩:=h;obtain⟨u,w',rfl,⟨t,rfl⟩,⟨t',rfl⟩⟩:=zq4 r;refine min_two_ints (I.ok.hd hc) λh' tk k=>⟨_,H,I.kept k,?_,q⟩
 by_cases hj:j<i
 ·rw[if_pos hj,if_pos hj];exact⟨_,rfl⟩
 ·rw[if_neg hj,if_neg hj];exact⟨_,rfl⟩
theorem zk2:xy X (.type "int") (λxs H Q=>(∃i,xs = [.int i]/\Q (.int i) H)\/∃k,xs = [.bl k]/\Q (.int (if k then 1 else 0)) H):=by
 intro pins s σ H xs us Q I r h;rcases h with⟨i,rfl,q⟩ |⟨k,rfl,q⟩
 ·obtain⟨u,rfl,t,rfl⟩:=zdq r;exact call_int_int ⟨.int i,H,I,⟨_,rfl⟩,q⟩
 ·obtain⟨u,rfl,r1⟩:=zdq r
  cases r1;exact call_int_bool ⟨.int (if k then 1 else 0),H,I.tok _,⟨_,rfl⟩,q⟩
def zw4(K:PySem.W.Frag)(x:V)(H:Hp)(n:Nat):Prop :=
 match x with
 |.str y=>y.length<=sizeLine/\n=y.length
 |.byt y=>y.size<=sizeLine/\n=y.size
 |.ref p=>(∃xs,SqL K H p xs/\n=xs.length)\/∃xs,SqT K H p xs/\n=xs.length
 |_=>False
theorem zmb:xy X (.builtin "len") (λxs H Q=>∃x n,xs = [x]/\zw4 X.K x H n/\Q (.int n) H):=by
 intro pins s σ H xs us Q I r h;obtain⟨x,n,rfl,e,q⟩:=h;obtain⟨u,rfl,rx⟩:=zdq r;have hl:=jv;have hs:sizeLine=16777216:=sizeLine_eq
 cases x with
 |str y=>
  obtain⟨t,rfl⟩:=rx;obtain⟨hy,e'⟩:y.length<=sizeLine/\n=y.length:=e;subst e';exact len_str (by omega) ⟨.int _,H,I.tok _,⟨_,rfl⟩,q⟩
 |byt y=>
  obtain⟨t,rfl⟩:=rx;obtain⟨hy,e'⟩:y.size<=sizeLine/\n=y.size:=e;subst e';exact PySem.W.len_bytes (by omega) ⟨.int _,H,I.tok _,⟨_,rfl⟩,q⟩
 |ref p=>
  cases rx;have e':(∃xs,SqL X.K H p xs/\n=xs.length)\/∃xs,SqT X.K H p xs/\n=xs.length:=e;rcases e' with⟨xs,hx,e'⟩ |⟨xs,hx,e'⟩
  ·subst e';obtain⟨its,r',pl,hz⟩:=I.list hx;have hlen:=r'.length;exact Calls.call_len_list pl.isList (by simp only[List.size_toArray];omega) ⟨.int xs.length,H,I.tok _,⟨_,by simp only[List.size_toArray];rw[hlen]⟩,q⟩
  ·subst e';obtain⟨its,r',pl,hz⟩:=I.tuple hx;have hlen:=r'.length;exact len_tuple pl (by simp only[List.size_toArray];omega) ⟨.int xs.length,H,I.tok _,⟨_,by simp only[List.size_toArray];rw[hlen]⟩,q⟩
 |_=>exact(show False from e).elim
end
structure zx7(h:Heap)(x dx C:Addr)(mA:Str->Option Value):Prop where
 obj:h.get? x=some (PySem.W.instObj C dx)
 ns:h.Ns1 dx mA
 ne:dx≠x
section
variable {prog:Program}{w:World}{A:Around}{E:Value->Shared->Prop}{s:Shared}{K:PySem.W.Frag}{x dx C f:Addr}{mA:Str->Option Value}{name:Str}{v:Value}
end
theorem RelO.some_of{v:V}{o:Option Value}(r:RelO (some v) o):∃u,o=some u/\RelV v u:=by
 cases o with
 |none=>exact(show False from r).elim
 |some u=>exact⟨u,rfl,r⟩
section
variable {P:Program}{w:World}{H H':Hp}{h h':Heap}{a C dx:Addr}{fs fs':List (Str×V)}
end
structure Cls(K:PySem.W.Frag)(C:Addr):Prop where
 pg:PySem.W.plainGet K C Str.empty=true
 hd:PySem.W.hasDictIn K C=true
 po:PySem.W.plainOver K C=true
 sa:PySem.W.findIn K (.ref C) "__setattr__" = some (some (.builtin "object.__setattr__"))
theorem Cls.get{K:PySem.W.Frag}{C:Addr}(c:Cls K C)(f:Str):PySem.W.plainGet K C f=true:=c.pg
def zse(K:PySem.W.Frag)(C:Addr)(f:Str):Prop:=PySem.W.findIn K (.ref C) f=some none
structure Con(K:PySem.W.Frag)(C:Addr)(f:Str)(v:V)(u:Value):Prop where
 at_:PySem.W.findIn K (.ref C) f=some (some u)
 rel:RelV v u
 get:PySem.W.specialIn K u "__get__" = some none
 cp:PySem.W.copiedNames.contains f=false
structure zx8(K:PySem.W.Frag)(C:Addr)(m:Str)(f:Addr):Prop where
 at_:PySem.W.findIn K (.ref C) m=some (some (.ref f))
 fn:PySem.W.isFn K (.ref f)=true
 kp:PySem.W.keepIn K (.ref f)=true
section
variable {X:Cx}{pins:List (Addr×Obj)}{σ:St}{H:Hp}{s:Shared}{a C dx:Addr}{fs:List (Str×V)}{f:Str}{v:V}{A:Around}{E:Value->Shared->Prop}
end
section
variable {X:Cx}{o e value:Expr}{f:Str}{pos pos' tpos:Pos}{ta tv:TE}
end
section
variable {X:Cx}{pins:List (Addr×Obj)}{σ:St}{H:Hp}{s:Shared}{A:Around}{E:Value->Shared->Prop}{Q:Value->Shared->Prop}{c:Value}{b:Bool}
inductive zcd(K:PySem.W.Frag)(H:Hp):V->Value->Prop where
 |non:zcd K H .non (.type "NoneType")
 |bl (x:Bool):zcd K H (.bl x) (.type "bool")
 |int (i:Int):zcd K H (.int i) (.type "int")
 |str (x:Str):zcd K H (.str x) (.type "str")
 |flt (x:UInt64):zcd K H (.flt x) (.type "float")
 |lst {a:Addr}{xs:List V} (e:H a=some (.lst xs)):zcd K H (.ref a) (.type "list")
 |frz {a:Addr}{o:Obj}{xs:List V} (e:H a=some (.frz o (.lst xs))):zcd K H (.ref a) (.type "list")
 |tup {a:Addr}{xs:List V} (e:H a=some (.tup xs)):zcd K H (.ref a) (.type "tuple")
 |dK {a:Addr}{kvs:List (Key×V)} (e:H a=some (.dK kvs)):zcd K H (.ref a) (.type "dict")
 |dT {a:Addr}{kvs:List (List Key×V)} (e:H a=some (.dT kvs)):zcd K H (.ref a) (.type "dict")
 |ins {a C dx:Addr}{fs:List (Str×V)} (e:H a=some (.ins C dx fs)) (cl:Cls K C) (ha:PySem.W.findIn K (.ref C) "__class__" = some (some (.builtin "object.__class__")))
   (hn:PySem.W.specialIn K (.builtin "object.__class__") "__get__" = some (some (.builtin "getset_descriptor.__get__"))) (htk:PySem.W.takesIn K (.builtin "object.__class__")=some true)
   (hm:PySem.W.mroIn K C (.type "object")=some true):zcd K H (.ref a) (.ref C)
end
structure Room(k:Nat)(A:Around):Prop where
 hd:A.handled=none
 dp:A.depth+3 * k+5<recursionLimit
 un:A.units+16 * k+200<cLine
 gd:A.guards=some []
theorem Room.mono{j k:Nat}{A:Around}(r:Room k A)(h:j<=k):Room j A:=⟨r.hd,by have:=r.dp;omega,by have:=r.un;omega,r.gd⟩
theorem Room.deeper{k:Nat}{A:Around}(r:Room (k+1) A)(env:Env):Room k (A.deeper env) :=
 ⟨r.hd,by have:=r.dp;show A.depth+1+3 * k+5<_;omega,by have:=r.un;show A.units+3+16 * k+200<_;omega,r.gd⟩
theorem Room.depth{k:Nat}{A:Around}(r:Room k A):A.depth<recursionLimit:=by have:=r.dp;omega
theorem Room.units{k:Nat}{A:Around}(r:Room k A):A.units+64<cLine:=by have:=r.un;omega
def zw5:TA:=λ_ H Q=>Q [] H
def zu5(ta:TE)(tr:TA):TA:=λσ H Q=>ta σ H λx H1=>tr σ H1 λxs H2=>Q (x::xs) H2
section
variable {X:Cx}{e:Expr}{es:List Expr}{te:TE}{t:TA}{pos:Pos}
theorem wm:PA X [] zw5:=λ_ _ _ _ H Q I h=>Calls.spliced_nil ⟨[],H,I,.nil,h⟩
theorem xh(ha:PE X e te)(hr:PA X es t)(hs:starEach (e::es) X.env=(false,eval e X.env)::starEach es X.env:=by rfl):PA X (e::es) (zu5 te t):=by
 intro pos pins s σ H Q I h;rw[hs];show wpAny _ _ (spliced ((false,eval e X.env)::backTo pos (starEach es X.env))) _ _ s;refine Calls.spliced_cons (thn (ha pins s σ H _ I h) λu s1 ⟨x,H1,I1,r1,q1⟩=>?_);exact thn (hr pos pins s1 σ H1 _ I1 q1) λus s2 ⟨xs,H2,I2,r2,q2⟩=>⟨x::xs,H2,I2,.cons r1 r2,q2⟩
def zw6(t:TA):TE:=λσ H Q=>t σ H λxs H1=>xs.length<=sizeLine/\∀p,H1 p=none->Q (.ref p) (upd H1 p (.tup xs))
def zw7(t:TA):TE:=λσ H Q=>t σ H λxs H1=>xs.length<=sizeLine/\∀p,H1 p=none->Q (.ref p) (upd H1 p (.lst xs))
theorem zsf{x1}(h:PA X es t):PE X (.Tuple es x1 pos) (zw6 t):=by
 intro pins s σ H Q I hq;refine wpAny_Tuple_spliced (thn (h pos pins s σ H _ I hq) λus s1 ⟨xs,H1,I1,r,z,q⟩=>⟨by rw[<-r.length];exact z,?_⟩);have hf:H1 s1.heap.objs.size=none:=I1.hok.fresh (Nat.le_refl _);refine⟨.ref s1.heap.objs.size,upd H1 s1.heap.objs.size (.tup xs),I1.laid (t':=s1.toks) (λb u e=>Heap.get?_push_of_some _ e) (Nat.le_refl _) ?_,rfl,q _ hf⟩;exact⟨z,us,r,⟨_,Heap.get?_push_size _ rfl,rfl,⟨_,rfl⟩,rfl⟩⟩
theorem zsg(h:PA X es t):PE X (.List es pos) (zw7 t):=by
 intro pins s σ H Q I hq;refine wpAny_List_spliced (thn (h pos pins s σ H _ I hq) λus s1 ⟨xs,H1,I1,r,z,q⟩=>⟨by rw[<-r.length];exact z,?_⟩);have hf:H1 s1.heap.objs.size=none:=I1.hok.fresh (Nat.le_refl _);refine⟨.ref s1.heap.objs.size,upd H1 s1.heap.objs.size (.lst xs),I1.laid (t':=s1.toks) (λb u e=>Heap.get?_push_of_some _ e) (Nat.le_refl _) ?_,rfl,q _ hf⟩;exact⟨z,us,0,r,Heap.get?_push_size _ rfl⟩
end
abbrev Sp:=List V->Hp->VK->XK->Prop
abbrev CXT:=List Env->Hp->Shared->XK->Value->Shared->Prop
structure zhs(P:Program)(w:World)(K:PySem.W.Frag)(mg:Str->Option Value)(base:Heap)(A:Around)(outer:List Env)(s:Shared)(H:Hp):Prop where
 frames:A.frames=some outer
 mod:Mod K mg base
 bs:∀b o,base.get? b=some o->s.heap.get? b=some o/\H b=none
 bsz:base.objs.size<=s.heap.objs.size
 funs:s.heap.FunFrames base outer
 frf:∀b∈frs outer,H b=none
 hok:HOk P w H s.heap
 bare:AllBare s.gens
def CE(outer:List Env)(P:Program)(w:World)(H:Hp)(s:Shared)(Q:VK)(u:Value)(s':Shared):Prop :=
 ∃v H',s'.os=s.os/\AllBare s'.gens/\Un (frs outer) [] H H' s.heap s'.heap/\HOk P w H' s'.heap/\RelV v u/\Q v H'
def CR(CX:CXT)(outer:List Env)(P:Program)(w:World)(H:Hp)(s:Shared)(Q:VK)(E:XK)(r:Result)(s':Shared):Prop :=
 match r with
 |.ok (.ret u)=>CE outer P w H s Q u s'
 |.ok _=>False
 |.error e=>CX outer H s E e s'
structure FnOk(P:Program)(w:World)(K:PySem.W.Frag)(mg:Str->Option Value)(base:Heap)(CX:CXT)(k:Nat)(f:Addr)(fd:FuncData)(ps:List Str)(sp:Sp):Prop where
 len:∀vs H Q E,sp vs H Q E->vs.length=ps.length
 run:∀(A:Around) (outer:List Env) (s:Shared) (H:Hp) (args:Args) (us:List Value) (vs:List V) (Q:VK) (E:XK),Room k A->zhs P w K mg base A outer s H->BindsTo s fd args (ps.zip us)->Vals vs us->sp vs H Q E ->
  codeAny (model P w) A (.call (.ref f) args) (CR CX outer P w H s Q E) s
theorem FnOk.mono{P:Program}{w:World}{K:PySem.W.Frag}{mg:Str->Option Value}{base:Heap}{CX:CXT}{j k:Nat}{f:Addr}{fd:FuncData}{ps:List Str}{sp:Sp}(F:FnOk P w K mg base CX j f fd ps sp)(h:j<=k):
  FnOk P w K mg base CX k f fd ps sp:=⟨F.len,λA outer s H args us vs Q E hr=>F.run A outer s H args us vs Q E (hr.mono h)⟩
theorem FnOk.imp{P:Program}{w:World}{K:PySem.W.Frag}{mg:Str->Option Value}{base:Heap}{CX:CXT}{k:Nat}{f:Addr}{fd:FuncData}{ps:List Str}{sp sp':Sp}(F:FnOk P w K mg base CX k f fd ps sp)
  (h:∀vs H Q E,sp' vs H Q E->sp vs H Q E):FnOk P w K mg base CX k f fd ps sp' :=
 ⟨λvs H Q E q=>F.len vs H Q E (h _ _ _ _ q),λA outer s H args us vs Q E hr he hb hv hs=>F.run A outer s H args us vs Q E hr he hb hv (h _ _ _ _ hs)⟩
section
variable {X:Cx}{pins:List (Addr×Obj)}{σ:St}{H:Hp}{s s':Shared}
theorem Inv.env0(I:Inv X pins σ H s):zhs X.prog X.w X.K X.mg X.base X.A X.stack s H :=
 ⟨I.ok.frames,I.ok.mod,I.bs,Nat.le_trans I.ok.bsz I.sz,I.stack,I.stkFree,I.hok,I.bare⟩
theorem Inv.after{Q:VK}{u:Value}(I:Inv X pins σ H s)(h:CE X.stack X.prog X.w H s Q u s'):EP X pins σ Q u s':=by
 obtain⟨v,H',os,bare,un,hok,r,q⟩:=h;obtain⟨hh,g,d,t,os'⟩:=s';obtain rfl:os'=s.os:=os;exact⟨v,H',I.call (h':=hh) (g':=g) (d':=d) (t':=t) (ch:=[]) un hok bare (λb z=>absurd z (by simp)),r,q⟩
end
def zq5(sp:Sp)(dvs:List V)(E:XK)(t:TA):TE:=λσ H Q=>t σ H λvs H1=>sp (vs++dvs) H1 Q E
def Binds(K:PySem.W.Frag)(fd:FuncData)(ps:List Str)(ds:List Value):Prop :=
 ∀(s:Shared) (us:List Value),K.In s.heap->(us++ds).length=ps.length->BindsTo s fd ⟨us,[]⟩ (ps.zip (us++ds))
theorem Binds.all{K:PySem.W.Frag}{fd:FuncData}{ps:List Str}(h:∀us:List Value,us.length=ps.length->bindArgs fd ⟨us,[]⟩=pure (ps.zip us)):Binds K fd ps []:=λs us _ hl=>by
 rw[List.append_nil]at hl ⊢;exact .of_eq (h us hl)
def zht(CX:CXT)(X:Cx)(E:XK):Prop:=∀(pins:List (Addr×Obj)) (σ:St) (H:Hp) (s:Shared) (e:Value) (s':Shared),Inv X pins σ H s->CX X.stack H s E e s'->X.xe e s'
section
variable {X:Cx}{CX:CXT}{k:Nat}{f C:Addr}{fd:FuncData}{ps:List Str}{sp:Sp}{dvs:List V}{ds:List Value}{E:XK}{x m:Str}{p pos apos:Pos}{e o:Expr}{es:List Expr}{ta:TE}{t:TA}
theorem zsh{pins:List (Addr×Obj)}{σ:St}{H:Hp}{s:Shared}{Q:VK}{us:List Value}{vs:List V}(F:FnOk X.prog X.w X.K X.mg X.base CX k f fd ps sp)(hr:Room k X.A)(hb:Binds X.K fd ps ds)(hd:Vals dvs ds)(hx:zht CX X E)
  (I:Inv X pins σ H s) (r:Vals vs us) (h:sp (vs++dvs) H Q E):wpAny (model X.prog X.w) X.A (call (.ref f) us) (EP X pins σ Q) X.xe s:=by
 have r2:Vals (vs++dvs) (us++ds):=r.append hd;have hl:(us++ds).length=ps.length:=by rw[<-r2.length];exact F.len _ _ _ _ h
 refine wpAny_call (codeAny_mono (F.run X.A X.stack s H ⟨us,[]⟩ (us++ds) (vs++dvs) Q E hr I.env0 (hb s us I.kIn hl) r2 h) λr s' hq=>?_)
 cases r with
 |error e=>exact hx pins σ H s e s' I hq
 |ok fl=>
  cases fl with
  |ret u=>exact I.after hq
  |next=>exact False.elim hq
  |brk=>exact False.elim hq
  |cont=>exact False.elim hq
theorem zo2(F:FnOk X.prog X.w X.K X.mg X.base CX k f fd ps sp)(hr:Room k X.A)(hg:Gl X x)(hm:X.mg x=some (.ref f))(hk:PySem.W.keepIn X.K (.ref f)=true)(hb:Binds X.K fd ps ds)(hd:Vals dvs ds)(hx:zht CX X E)
  (ha:PA X (e::es) t) (hdb:(x ==("__debug__" : Str))=false:=by decide) (he:starEach (e::es) X.env=(false,eval e X.env)::starEach es X.env:=by rfl) (hpl:(backTo pos (starEach es X.env)).any (·.1)=false:=by rfl) :
  PE X (.Call (.Name x p) (e::es) [] pos) (zq5 sp dvs E t):=by
 intro pins s σ H Q I h;refine wpAny_Call_Name_kw (zje I hg hm ?_ hdb);refine PySem.W.callWith_K (h₀:=X.base) I.ok.mod.kin hk (thn (ha pos pins s σ H _ I h) λus s1 ⟨vs,H1,I1,r,q⟩=>⟨I1.kIn,?_⟩) he hpl;exact zsh F hr hb hd hx I1 r q
structure Mk(K:PySem.W.Frag)(C f:Addr):Prop where
 makes:PySem.W.makesIn K C=true
 init:PySem.W.findIn K (.ref C) "__init__" = some (some (.ref f))
 fn:PySem.W.isFn K (.ref f)=true
 kp:PySem.W.keepIn K (.ref C)=true
end
section
variable {X:Cx}{CX:CXT}{k:Nat}{f C:Addr}{fd:FuncData}{ps ks:List Str}{sp:Sp}{E:XK}{x m:Str}{p pos apos kpos:Pos}{e o:Expr}{es:List Expr}{kws:List Keyword}{te ta:TE}{t tk:TA}{nm:Option Str}
structure zw8(K:PySem.W.Frag)(fd:FuncData)(ps ks:List Str)(g:List Value->List Value->List Value)(gV:List V->List V->List V):Prop where
 to:∀(s:Shared) (us ws:List Value),K.In s.heap->(g us ws).length=ps.length->BindsTo s fd ⟨us,ks.zip ws⟩ (ps.zip (g us ws))
 rel:∀{vs:List V}{us:List Value}{zs:List V}{ws:List Value},Vals vs us->Vals zs ws->Vals (gV vs zs) (g us ws)
variable {g:List Value->List Value->List Value}{gV:List V->List V->List V}
end
structure zy(N P:List Str)(sc:Scope):Prop where
 kind:sc.kind=.function
 co:sc.isCoroutine=false
 gen:sc.isGenerator=false
 nd:N.Nodup
 pre:N.take P.length=P
 par:∀x∈P,sc.names.lookup x=some .local\/sc.names.lookup x=some .cell
 nofree:∀y∈sc.names,y.2 ≠ .free
theorem zdr{kindOf:Str->Option NameKind}{x:Str}:∀{binds:List (Str×Value)}{m:Str->Option Value},(∀v,(x,v)∉binds)->bindL kindOf binds m x=m x
 |[],_,_=>rfl
 |(n,v)::r,m,h=>by
  unfold bindL;rw[zdr λw hw=>h w (List.mem_cons_of_mem _ hw)]
  split
  ·have:x≠n:=by rintro rfl;exact h v List.mem_cons_self
   simp[this]
  ·rfl
theorem zds{kindOf:Str->Option NameKind}{x:Str}:∀{binds:List (Str×Value)}{m:Str->Option Value},(∀v,(x,v)∉binds)->bindC kindOf binds m x=m x
 |[],_,_=>rfl
 |(n,v)::r,m,h=>by
  unfold bindC;rw[zds λw hw=>h w (List.mem_cons_of_mem _ hw)]
  split
  ·rfl
  ·have:x≠n:=by rintro rfl;exact h v List.mem_cons_self
   simp[this]
theorem zdt{kindOf:Str->Option NameKind}{x:Str}{v:Value}:∀{P:List Str}{vs:List Value}{i:Nat}{m:Str->Option Value},P.Nodup->P[i]?=some x->vs[i]?=some v->kindOf x=some .local ->
  bindL kindOf (P.zip vs) m x=some v
 |[],_,_,_,_,h,_,_=>by simp at h
 |_::_,[],_,_,_,_,h,_=>by simp at h
 |p::P,w::vs,0,m,nd,h1,h2,hk=>by
  simp at h1 h2;subst h1;subst h2;show bindL kindOf ((p,w)::P.zip vs) m p=_;unfold bindL;rw[zdr λv hv=>(List.nodup_cons.mp nd).1 (List.of_mem_zip hv).1,if_pos hk];simp
 |p::P,w::vs,i+1,m,nd,h1,h2,hk=>by
  show bindL kindOf ((p,w)::P.zip vs) m x=_;unfold bindL;exact zdt (i:=i) (List.nodup_cons.mp nd).2 (by simpa using h1) (by simpa using h2) hk
theorem zdu{kindOf:Str->Option NameKind}{x:Str}{v:Value}:∀{P:List Str}{vs:List Value}{i:Nat}{m:Str->Option Value},P.Nodup->P[i]?=some x->vs[i]?=some v->kindOf x≠some .local ->
  bindC kindOf (P.zip vs) m x=some v
 |[],_,_,_,_,h,_,_=>by simp at h
 |_::_,[],_,_,_,_,h,_=>by simp at h
 |p::P,w::vs,0,m,nd,h1,h2,hk=>by
  simp at h1 h2;subst h1;subst h2;show bindC kindOf ((p,w)::P.zip vs) m p=_;unfold bindC;rw[zds λv hv=>(List.nodup_cons.mp nd).1 (List.of_mem_zip hv).1,if_neg hk];simp
 |p::P,w::vs,i+1,m,nd,h1,h2,hk=>by
  show bindC kindOf ((p,w)::P.zip vs) m x=_;unfold bindC;exact zdu (i:=i) (List.nodup_cons.mp nd).2 (by simpa using h1) (by simpa using h2) hk
def jp(N:List Str)(vs:List V):St:=vs.map some++List.replicate (N.length-vs.length) none
def zhu(CX:CXT)(P:Program)(w:World)(K:PySem.W.Frag)(mg:Str->Option Value)(base:Heap)(N:List Str)(qual:Str)(scope:Scope)(f:Addr)(cd:Value)(A:Around)(outer:List Env)(s:Shared)(H:Hp)(E:XK):Cx where
 prog:=P
 w:=w
 K:=K
 mg:=mg
 base:=base
 A:=A.deeper (envOfC qual scope s.heap.objs.size f cd)
 N:=N
 s₀:=s
 H₀:=H
 env:=envOfC qual scope s.heap.objs.size f cd
 outer:=outer
 stack:=envOfC qual scope s.heap.objs.size f cd::outer
 ex:=[]
 calm:=true
 fn:=λ_=>true
 pn:=[]
 xe:=λe s'=>wpAny (model P w) (A.deeper (envOfC qual scope s.heap.objs.size f cd)) (leaving (envOfC qual scope s.heap.objs.size f cd) e) (λ_ s''=>CX outer H s E e s'') (λe' s''=>CX outer H s E e' s'') s'
theorem zf4{sc:Scope}{n:Nat}{x:Str}(h:sc.names.lookup x=some .cell):∃c,(cellsFrom n sc.names []).lookup x=some c:=by
 have q:=PySem.W.cellsFrom_some sc.names n [] (.inl h);exact Option.isSome_iff_exists.mp q
theorem zk3{CX:CXT}{P:Program}{w:World}{K:PySem.W.Frag}{mg:Str->Option Value}{base:Heap}{N ps:List Str}{qual:Str}{scope:Scope}{f:Addr}{cd:Value}{A:Around}{outer:List Env}{s s1:Shared}{H:Hp}{E:XK}{us:List Value}{vs:List V}
  (S:zy N ps scope) (hd:A.handled=none) (e0:zhs P w K mg base A outer s H) (hl:vs.length=ps.length) (r:Vals vs us)
  (x:InCallC s s.heap.objs.size (bindL (envOfC qual scope s.heap.objs.size f cd).kindOf (ps.zip us) λ_=>none) (cellsFrom (s.heap.objs.size+1) scope.names []) (bindC (envOfC qual scope s.heap.objs.size f cd).kindOf (ps.zip us) λ_=>none) s1) :
  Inv (zhu CX P w K mg base N qual scope f cd A outer s H E) [] (jp N vs) H s1:=by
 have hpl:ps.length<=N.length:=by have:=congrArg List.length S.pre;rw[List.length_take]at this;omega
 obtain⟨h1,tk,rfl,hk⟩:=x.done;have noA:∀b:Addr,b∉(zhu CX P w K mg base N qual scope f cd A outer s H E).ex:=λb z=>absurd (show b∈([]:List Addr) from z) (by simp);refine⟨⟨e0.mod,S.kind,rfl,rfl,Nat.le_refl _,λy z c h1 h2=>?_,λy hy=>?_,λy c _ h=>?_,λ_=>hd,Around.frames_deeper e0.frames,.inr ⟨rfl,rfl⟩,λb z=>absurd z (noA b),e0.bs,e0.bsz,λb _ _=>noA b,λb z=>absurd z (noA b),e0.funs,e0.frf⟩,
  rfl,e0.bare,Un.kept hk,⟨_,x.toInCall.ns,λi y v h1 h2 h3=>?_⟩,λy c h=>⟨_,x.cell y c h⟩,e0.hok.fresh (Nat.le_refl _),λy c h=>?_,λp hp=>absurd (show p∈([]:List (Addr×Obj)) from hp) (by simp),e0.hok.kept hk,?_⟩
 ·exact name_of_addr x.apart (PySem.mem_of_lookup h1) (PySem.mem_of_lookup h2)
 ·have hy:scope.names.lookup y=some .cell\/scope.names.lookup y=some .free:=hy;rcases hy with hy|hy
  ·exact zf4 hy
  ·exact absurd rfl (S.nofree _ (PySem.mem_of_lookup hy))
 ·exact Nat.le_of_lt (x.above y c (PySem.mem_of_lookup h))
 ·have hi:i<vs.length:=by
   unfold jp at h2
   by_cases hi:i<vs.length
   ·exact hi
   ·rw[List.getElem?_append_right (by simpa using hi)]at h2;rw[List.getElem?_replicate]at h2
    split at h2 <;> cases h2
  have ha:vs[i]?=some v:=by
   unfold jp at h2;rw[List.getElem?_append_left (by simpa using hi),List.getElem?_map]at h2
   cases e:vs[i]? with
   |none=>rw[e]at h2;cases h2
   |some a=>rw[e]at h2;cases h2;rfl
  obtain⟨u,hu,rv⟩:=r.get ha;have hp:ps[i]?=some y:=by
   rw[<-S.pre,List.getElem?_take_of_lt (by omega)];exact h1
  have ndP:ps.Nodup:=by rw[<-S.pre];exact S.nd.sublist (List.take_sublist _ _)
  refine⟨u,rv,?_⟩;rcases S.par y (List.mem_of_getElem? hp) with k|k
  ·exact .inl ⟨k,zdt ndP hp hu k⟩
  ·obtain⟨c,e⟩:=zf4 (n:=s.heap.objs.size+1) k;refine .inr ⟨.inl k,c,e,?_⟩;have q:=x.cell y c e;rw[zdu ndP hp hu (by show scope.names.lookup y≠_;rw[k];decide)]at q;exact q
 ·exact e0.hok.fresh (Nat.le_of_lt (x.above y c (PySem.mem_of_lookup h)))
 ·unfold jp;show _=N.length;rw[List.length_append,List.length_map,List.length_replicate];omega
theorem zu6{CX:CXT}{P:Program}{w:World}{K:PySem.W.Frag}{mg:Str->Option Value}{base:Heap}{k:Nat}{f:Addr}{name qual:Str}{params:Arguments}{body:List Stmt}{scope:Scope}{dV kV doc pm cdv ct oc:Value}{an od:Option Addr}
  {osl:Array (Option Value)}{N ps:List Str}{sp:Sp} (lk:K.lookup f=some ⟨oc,od,.func (PySem.W.fnOf name qual params body scope dV kV doc pm an cdv ct),osl⟩) (hcd:PySem.W.codeIn K cdv qual=true) (S:zy N ps scope)
  (len:∀vs H Q E,sp vs H Q E->vs.length=ps.length)
  (hbody:∀(A:Around) (outer:List Env) (s:Shared) (H:Hp) (vs:List V) (Q:VK) (E:XK),Room k (A.deeper (envOfC qual scope s.heap.objs.size f cdv))->sp vs H Q E ->
   ∃t,PSs (zhu CX P w K mg base N qual scope f cdv A outer s H E) body t/\t { nx:=λ_ H'=>Q .non H',rt:=Q } (jp N vs) H) :
  FnOk P w K mg base CX (k+1) f (PySem.W.fnOf name qual params body scope dV kV doc pm an cdv ct) ps sp:=by
 refine⟨len,λA outer s H args us vs Q E hr e0 hb r hsp=>?_⟩;have hl:=len _ _ _ _ hsp;have KX:K.In s.heap:=e0.mod.kin.keeps λb o e=>(e0.bs b o e).1;have lim:s.heap.NoLimit:=e0.mod.nolimit.keeps λb o e=>(e0.bs b o e).1;have hkind:∀y∈ps.zip us,scope.names.lookup y.1=some .local\/(scope.names.lookup y.1=some .cell/\((cellsFrom (s.heap.objs.size+1) scope.names []).lookup y.1).isSome=true):=λ⟨n,v⟩ hy=>by
  rcases S.par n (List.of_mem_zip hy).1 with q|q
  ·exact .inl q
  ·exact .inr ⟨q,PySem.W.cellsFrom_some _ _ _ (.inl q)⟩
 refine codeAny_call_function hr.depth (KX _ _ lk) rfl S.co S.gen rfl (PySem.W.codeRec_of KX hcd) (hb _ _ _ _ ?_);refine wpAny_newFunctionEnv_cells S.kind hkind λenv he s1 x=>?_;subst he;refine⟨lim.keeps x.toInCall.keep,codeAny_func ?_⟩;obtain⟨t,ht,hq⟩:=hbody A outer s H vs Q E (hr.deeper _) hsp;have I:Inv (zhu CX P w K mg base N qual scope f cdv A outer s H E) [] (jp N vs) H s1:=zk3 S hr.hd e0 hl r x;refine wpAny_mono (ht [] s1 (jp N vs) H _ I hq) (λfl s' hs=>?_) λe s' hs=>hs;have fin:∀{σ':St}{H':Hp}{v:V}{u:Value},Inv (zhu CX P w K mg base N qual scope f cdv A outer s H E) [] σ' H' s'->RelV v u->Q v H'->CE outer P w H s Q u s' :=
  λ{σ' H' v u} J rv q=>⟨v,H',J.os,J.bare,J.base,J.hok,rv,q⟩
 cases fl with
 |ret u=>
  obtain⟨v,σ',H',J,rv,q⟩:=hs;exact fin J rv q
 |next=>
  obtain⟨σ',H',J,q⟩:=hs;exact fin (v:=V.non) (u:=Value.none) J rfl q
 |brk=>
  obtain⟨_,_,_,q⟩:=hs;exact False.elim q
 |cont=>
  obtain⟨_,_,_,q⟩:=hs;exact False.elim q
section
variable {X:Cx}{x:Str}{p pos:Pos}{e:Expr}{es:List Expr}{t:TA}{id T:String}{r:List V->Hp->VK->Prop}
def tCB(r:List V->Hp->VK->Prop)(t:TA):TE:=λσ H Q=>t σ H λvs H1=>r vs H1 Q
theorem h9(hc:xy X (.builtin id) r)(hg:Gl X x)(hm:X.mg x=none)(hv:bootBuiltins x=some (.builtin id))(ha:PA X (e::es) t)(hn:x ≠ "__name__" := by decide)(hdb:(x ==("__debug__" : Str))=false:=by decide)
  (he:starEach (e::es) X.env=(false,eval e X.env)::starEach es X.env:=by rfl) (hpl:(backTo pos (starEach es X.env)).any (·.1)=false:=by rfl):PE X (.Call (.Name x p) (e::es) [] pos) (tCB r t):=by
 intro pins s σ H Q I h;refine wpAny_Call_Name_kw (wk I hg hm hv ?_ hn hdb);exact PyProof.Rows.callWith_builtin1 (thn (ha pos pins s σ H _ I h) λus s1 ⟨vs,H1,I1,r1,q1⟩=>hc pins s1 σ H1 vs us Q I1 r1 q1) he hpl
theorem zdv(hc:xy X (.type T) r)(hg:Gl X x)(hm:X.mg x=none)(hv:bootBuiltins x=some (.type T))(ha:PA X (e::es) t)(hn:x ≠ "__name__" := by decide)(hdb:(x ==("__debug__" : Str))=false:=by decide)
  (he:starEach (e::es) X.env=(false,eval e X.env)::starEach es X.env:=by rfl) (hpl:(backTo pos (starEach es X.env)).any (·.1)=false:=by rfl):PE X (.Call (.Name x p) (e::es) [] pos) (tCB r t):=by
 intro pins s σ H Q I h;refine wpAny_Call_Name_kw (wk I hg hm hv ?_ hn hdb);exact PyProof.Rows.callWith_type1 (thn (ha pos pins s σ H _ I h) λus s1 ⟨vs,H1,I1,r1,q1⟩=>hc pins s1 σ H1 vs us Q I1 r1 q1) he hpl
end
end L2
namespace HT
open PySem PyProof.Rows
section
open PySem.SeqAt
open PySem.AutoSeq1 (wpAny_loadPart')
open PySem.MeetsSeq PySem.MeetsSeq2 PySem.MeetsSeq3
end
section
variable {prog:Program}{w:World}{A:Around}{E:Value->Shared->Prop}{s:Shared}
theorem cat_tup{t b:Addr}{vs ws:List Value}{Q:Value->Shared->Prop}(ht:IsTup s.heap t vs.toArray)(hb:IsTup s.heap b ws.toArray)(hv:vs ≠ [])
  (h1:ws = []->Q (.ref t) s) (h2:ws ≠ []->Q (.ref s.heap.objs.size) { s with heap:=s.heap.push { cls:=.type "tuple",data:=.seq (vs++ws).toArray } })
  (hsz:vs.length+ws.length<=sizeLine):wpAny (model prog w) A (binaryOp .Add (.ref t) (.ref b)) Q E s:=by
 obtain⟨⟨cls,dd,data,sl⟩,ho,hc,n,hd⟩:=id ht;obtain⟨⟨cls2,dd2,data2,sl2⟩,ho2,hc2,n2,hd2⟩:=id hb;simp only at hc hd hc2 hd2;subst hc hd hc2 hd2;have e:vs.toArray++ws.toArray=(vs++ws).toArray:=by simp
 by_cases hw:ws = []
 ·exact concat_meets ⟨_,ho,rfl⟩ ⟨_,ho2,rfl⟩ noFill_tuple_add seq_tuple_add PySem.F.slot_tuple_add PySem.F.entry_tuple_add (PySem.F.args_tuple_add_2 _ _)
   (tuple_addW1 t b vs.toArray ws.toArray n n2 dd dd2 sl sl2 (by simpa using hv) (by simp[hw])) ⟨ho,ho2,h1 hw⟩
 ·refine concat_meets ⟨_,ho,rfl⟩ ⟨_,ho2,rfl⟩ noFill_tuple_add seq_tuple_add PySem.F.slot_tuple_add PySem.F.entry_tuple_add (PySem.F.args_tuple_add_2 _ _)
   (tuple_addW2 t b vs.toArray ws.toArray n n2 dd dd2 sl sl2 (by simpa using hv) (by simpa using hw) (by rw[List.size_toArray,List.size_toArray];exact hsz)) ⟨ho,ho2,?_⟩
  rw[e];exact h2 hw
def sIx(n d:Nat):Option Int->Nat
 |none=>d
 |some v=>if v<0 then (v+(n:Int)).toNat else min v.toNat n
theorem sIx_none(n d:Nat):sIx n d none=d:=rfl
theorem sIx_nat(n d k:Nat):sIx n d (some (k:Int))=min k n:=by
 show(if (k:Int)<0 then ((k:Int)+(n:Int)).toNat else min (k:Int).toNat n)=min k n;rw[if_neg (by omega),Int.toNat_natCast]
theorem zsi(n d:Nat)(hd:d<=n)(o:Option Int):sIx n d o<=n:=by
 cases o with
 |none=>exact hd
 |some v=>
  show(if v<0 then (v+(n:Int)).toNat else min v.toNat n)<=n
  by_cases hv:v<0
  ·rw[if_pos hv];omega
  ·rw[if_neg hv];exact Nat.min_le_right _ _
theorem zjl(v:Int)(n d:Nat):(if v<0 then max (v+(n:Int)) 0 else min v (n:Int))=((sIx n d (some v):Nat):Int):=by
 show(if v<0 then max (v+(n:Int)) 0 else min v (n:Int))=(((if v<0 then (v+(n:Int)).toNat else min v.toNat n):Nat):Int)
 by_cases hv:v<0
 ·simp only[if_pos hv];omega
 ·simp only[if_neg hv];omega
theorem zhv(lo hi:Option Int)(n:Nat):Builtin.Slice.sliceAdjust lo hi 1 (n:Int)=(((sIx n 0 lo:Nat):Int),((sIx n n hi:Nat):Int)):=by
 have h1:¬ ((1:Int)<0):=by omega
 unfold Builtin.Slice.sliceAdjust;simp only[h1,if_false];refine Prod.ext ?_ ?_
 ·cases lo with
  |none=>rfl
  |some v=>exact zjl v n 0
 ·cases hi with
  |none=>rfl
  |some v=>exact zjl v n n
theorem zhw(i j:Nat):Builtin.Slice.slicePlaces (i:Int) (j:Int) 1=j-i:=by
 unfold Builtin.Slice.slicePlaces;have h1:(1:Int) > 0:=by omega
 simp only[h1,if_true,Int.ediv_one]
 split <;> omega
theorem zce{v:Value}{o:Option Int}{Q:Option Int->Shared->Prop}(p:IsPart v o)(h:Q o s):wpAny (model prog w) A (Builtin.Slice.slicePartIndex v) Q E s:=by
 cases p with
 |none=>exact slicePart_none h
 |int i t=>exact slicePart_int h
theorem sliceApplied_gen{sl:Addr}{vl vu:Value}{lo hi:Option Int}{n:Nat}{Q:Int×Int×Nat->Shared->Prop}(hs:s.heap.IsSliceOf sl vl vu .none)(pl:IsPart vl lo)(pu:IsPart vu hi)
  (h:Q (((sIx n 0 lo:Nat):Int),1,sIx n n hi-sIx n 0 lo) s):wpAny (model prog w) A (Builtin.Slice.sliceApplied (.ref sl) (pure (n:Int))) Q E s:=by
 obtain⟨os,hos,hcs,hds⟩:=id hs;unfold Builtin.Slice.sliceApplied Builtin.Slice.sliceFields;refine wpAny_bind (wpAny_bind (wpAny_field hos hds (x:=vl) rfl (wpAny_bind (wpAny_field hos hds (x:=vu) rfl (wpAny_bind (wpAny_field hos hds (x:=.none) rfl (wpAny_pure ?_)))))));refine wpAny_bind (slicePart_none ?_);show wpAny _ _ (if ((1:Int) == 0)=true then _ else _) _ _ s;rw[if_neg (by decide)];refine wpAny_bind (zce pl (wpAny_bind (zce pu (wpAny_bind (wpAny_pure ?_)))));show wpAny _ _ (match Builtin.Slice.sliceAdjust lo hi 1 (n:Int) with |(lo,hi)=>pure (lo,(1:Int),Builtin.Slice.slicePlaces lo hi 1)) _ _ s;rw[zhv lo hi n];show wpAny _ _ (pure (((sIx n 0 lo:Nat):Int),(1:Int),Builtin.Slice.slicePlaces ((sIx n 0 lo:Nat):Int) ((sIx n n hi:Nat):Int) 1)) _ _ s;rw[zhw];exact wpAny_pure h
theorem zmc(xs:Array Value)(i k:Nat):((List.range k).filterMap λ(m:Nat)=>xs[((i:Int)+(m:Int) * 1).toNat]?).toArray=((xs.toList.drop i).take k).toArray:=by
 have e:(λ(m:Nat)=>xs[((i:Int)+(m:Int) * 1).toNat]?)=λm=>xs[i+m]?:=by
  funext m
  have:((i:Int)+(m:Int) * 1).toNat=i+m:=by omega
  rw[this]
 rw[e];have:=pick_run xs i k;rw[List.filterMap_map]at this;have e2:((λx=>xs[x]?) ∘ λx=>i+x)=λm=>xs[i+m]?:=rfl;rw[e2]at this;rw[this]
theorem getItem_tuple_cut{t sl:Addr}{items:Array Value}{vl vu:Value}{lo hi:Option Int}{Q:Value->Shared->Prop}(ht:IsTup s.heap t items)(hs:s.heap.IsSliceOf sl vl vu .none)(pl:IsPart vl lo)(pu:IsPart vu hi)
  (hw:¬ (sIx items.size 0 lo=0/\sIx items.size items.size hi=items.size))
  (h:Q (.ref s.heap.objs.size) { s with heap:=s.heap.push { cls:=.type "tuple",data:=.seq ((items.toList.drop (sIx items.size 0 lo)).take (sIx items.size items.size hi-sIx items.size 0 lo)).toArray } })
  (hsz:items.size<=sizeLine):wpAny (model prog w) A (getItem (.ref t) (.ref sl)) Q E s:=by
 have htake:sizeOk (.seq ((items.toList.drop (sIx items.size 0 lo)).take (sIx items.size items.size hi-sIx items.size 0 lo)).toArray):=by
  show((items.toList.drop (sIx items.size 0 lo)).take (sIx items.size items.size hi-sIx items.size 0 lo)).toArray.size<=sizeLine;rw[List.size_toArray,List.length_take,List.length_drop,Array.length_toList];omega
 have hj:sIx items.size items.size hi<=items.size:=zsi _ _ (Nat.le_refl _) hi;obtain⟨os,hos,hcs,hds⟩:=id hs;have hTs:s.TypeIs (.ref sl) "slice" :=⟨os,hos,hcs⟩
 unfold getItem
 try with_reducible refine wpAny_holding ?_
 first|refine wpAny_bind (wpAny_pure ?_)|skip
 refine wpAny_bind (wpAny_sequenceKey ht.typeIs (by decide) ?_);refine wpAny_bind (wpAny_callSpecial?_slot (name:=Str.ofString "__getitem__") ht.typeIs PyProof.Rows.slot_tuple_getitem
  (wpAny_call_entry PyProof.Rows.slot_tuple_getitem ht.typeIs entry_tuple_getitem ?_ (args_tuple_getitem _ _)))
 show wpAny _ _ (Builtin.Tuple.tupleItemsOf (.ref t) >>= _) _ _ s;refine wpAny_bind (tupleItemsOf_ ht ?_);refine wpAny_bind (wpAny_typeOf hTs ?_);rw[if_pos (by decide)];refine wpAny_bind (sliceApplied_gen hs pl pu ?_);have hno:¬ ((((sIx items.size 0 lo:Nat):Int) == 0 && (1:Int) == 1 && (sIx items.size items.size hi-sIx items.size 0 lo) == items.size)=true):=by
  intro q;rw[Bool.and_eq_true,Bool.and_eq_true]at q;have q1:((sIx items.size 0 lo:Nat):Int)=0:=eq_of_beq q.1.1;have q2:sIx items.size items.size hi-sIx items.size 0 lo=items.size:=eq_of_beq q.2;exact hw ⟨by omega,by omega⟩
 show wpAny _ _ (if (((sIx items.size 0 lo:Nat):Int) == 0 && (1:Int) == 1 && (sIx items.size items.size hi-sIx items.size 0 lo) == items.size)=true then _ else _) _ _ s;rw[if_neg hno,zmc]
 first
  |exact wpAny_bind (m:=Builtin.Tuple.tupleExact _) (wpAny_newObj_type (wpAny_pure ⟨_,rfl,wpAny_pure h⟩) htake)
  |exact wpAny_bind (m:=Builtin.Tuple.tupleExact _) (wpAny_newObj_type (wpAny_bind (wpAny_pure (wpAny_pure ⟨_,rfl,wpAny_pure h⟩))) htake)
  |exact wpAny_bind (wpAny_bind (m:=Builtin.Tuple.tupleExact _) (wpAny_newObj_type (wpAny_pure (wpAny_pure ⟨_,rfl,wpAny_pure h⟩)) htake))
  |exact wpAny_bind (wpAny_bind (m:=Builtin.Tuple.tupleExact _) (wpAny_newObj_type (wpAny_pure ⟨_,rfl,wpAny_pure h⟩) htake))
end
end HT
namespace L2
open PySem PySem.Spec PyProof.Rows
abbrev TO:=St->Hp->(Option Int->Hp->Prop)->Prop
def PO(X:Cx)(e:Option Expr)(t:TO):Prop :=
 ∀(pins:List (Addr×Obj)) (s:Shared) (σ:St) (H:Hp) (Q:Option Int->Hp->Prop),Inv X pins σ H s->t σ H Q ->
  wpAny (model X.prog X.w) X.A (evalPart e X.env) (λu s'=>∃o H',Inv X pins σ H' s'/\IsPart u o/\Q o H') X.xe s
def zo3:TO:=λ_ H Q=>Q none H
def zu7(t:TE):TO:=λσ H Q=>t σ H λx H1=>∃i,x=.int i/\Q (some i) H1
theorem xk{ns:List Int}:∀{us:List Value},Vals (ns.map V.int) us->IntsAre us ns:=by
 induction ns with
 |nil=>intro us r;rw[List.map_nil]at r;cases r;exact .nil
 |cons n ns ih=>
  intro us r;rw[List.map_cons]at r
  cases r with
  |cons r1 r2=>
   obtain⟨t,e⟩:=r1;subst e;exact .cons n t (ih r2)
section
variable {X:Cx}{e:Expr}{te:TE}{lo hi:Option Expr}{tl th:TO}{pos p2:Pos}
theorem zo4:PO X none zo3:=by
 intro pins s σ H Q I h;rw[evalPart_none];exact wpAny_pure ⟨none,H,I,.none,h⟩
theorem zo5(h:PE X e te):PO X (some e) (zu7 te):=by
 intro pins s σ H Q I hw;rw[evalPart_some];refine thn (h pins s σ H _ I hw) λu s1 ⟨x,H1,I1,r1,q1⟩=>?_;obtain⟨i,rfl,q⟩:=q1;obtain⟨t,rfl⟩:=r1;exact⟨some i,H1,I1,.int i t,q⟩
def SlR(X:Cx)(r:V->Option Int->Option Int->Hp->VK->Prop):Prop :=
 ∀(pins:List (Addr×Obj)) (s:Shared) (σ:St) (H:Hp) (x:V) (v vl vu:Value) (lo hi:Option Int) (sl:Addr) (Q:VK),Inv X pins σ H s->RelV x v->s.heap.IsSliceOf sl vl vu .none->IsPart vl lo->IsPart vu hi->r x lo hi H Q ->
  ∃T id,typeLookup (.type T) "__getitem__" = pure (some (.builtin id))/\s.TypeIs v T/\wpAny (model X.prog X.w) X.A (getItem v (.ref sl)) (EP X pins σ Q) X.xe s
theorem SlR.or{r r':V->Option Int->Option Int->Hp->VK->Prop}(h:SlR X r)(h':SlR X r'):SlR X (λx lo hi H Q=>r x lo hi H Q\/r' x lo hi H Q):=by
 intro pins s σ H x v vl vu lo hi sl Q I rx hs pl pu q;rcases q with q|q
 ·exact h pins s σ H x v vl vu lo hi sl Q I rx hs pl pu q
 ·exact h' pins s σ H x v vl vu lo hi sl Q I rx hs pl pu q
def tSl(r:V->Option Int->Option Int->Hp->VK->Prop)(te:TE)(tl th:TO):TE:=λσ H Q=>te σ H λx H1=>tl σ H1 λl H2=>th σ H2 λu H3=>r x l u H3 Q
theorem zf5{r:V->Option Int->Option Int->Hp->VK->Prop}(hr:SlR X r)(he:PE X e te)(hl:PO X lo tl)(hu:PO X hi th):PE X (.Subscript e (.Slice lo hi none p2) pos) (tSl r te tl th):=by
 intro pins s σ H Q I h;refine Subscript_ (thn (he pins s σ H _ I h) λv s1 ⟨x,H1,I1,r1,q1⟩=>?_);refine wpAny_Slice (thn (hl pins s1 σ H1 _ I1 q1) λvl s2 ⟨l,H2,I2,pl,q2⟩=>thn (hu pins s2 σ H2 _ I2 q2) λvu s3 ⟨u,H3,I3,pu,q3⟩=>?_);rw[evalPart_none];refine wpAny_pure ?_;have I4:Inv X pins σ H3 { s3 with heap:=s3.heap.push { cls:=.type "slice",data:=.fields #[vl,vu,.none] } }:=I3.kept (t':=s3.toks) λb ob q=>Heap.get?_push_of_some _ q;obtain⟨T,id,hT,ht,hg⟩:=hr pins { s3 with heap:=s3.heap.push { cls:=.type "slice",data:=.fields #[vl,vu,.none] } } σ H3 x v vl vu l u s3.heap.objs.size Q I4 r1 (Heap.IsSliceOf.new ..) pl pu q3;show wpAny (model X.prog X.w) X.A (subscriptTail e (.Slice lo hi none p2) v (.ref s3.heap.objs.size)) (EP X pins σ Q) X.xe { s3 with heap:=s3.heap.push { cls:=.type "slice",data:=.fields #[vl,vu,.none] } };exact tail_any (ops:=[.ref s3.heap.objs.size,v]) ht hT hg (by with_unfolding_all rfl)
def zdg(xs:List V)(lo hi:Option Int):List V:=(xs.drop (HT.sIx xs.length 0 lo)).take (HT.sIx xs.length xs.length hi-HT.sIx xs.length 0 lo)
theorem zbo(xs:List V)(lo hi:Option Int):(zdg xs lo hi).length<=xs.length:=by
 unfold zdg;rw[List.length_take,List.length_drop];omega
def zw9(K:PySem.W.Frag):V->Option Int->Option Int->Hp->VK->Prop:=λx lo hi H Q=>∃a xs,x=.ref a/\SqT K H a xs /\
 ¬ (HT.sIx xs.length 0 lo=0/\HT.sIx xs.length xs.length hi=xs.length)/\∀p,H p=none->Q (.ref p) (upd H p (.tup (zdg xs lo hi)))
theorem zsj:SlR X (zw9 X.K):=by
 intro pins s σ H x v vl vu lo hi sl Q I rx hs pl pu h;obtain⟨a,xs,rfl,hx,hw,q⟩:=h
 cases rx;obtain⟨its,r,ht,hz⟩:=I.tuple hx;have hlen:its.toArray.size=xs.length:=by rw[List.size_toArray];exact r.length.symm
 refine⟨"tuple",_,PyProof.Rows.slot_tuple_getitem.lookup,ht.typeIs,?_⟩;refine HT.getItem_tuple_cut ht hs pl pu (by rw[hlen];exact hw) ?_ (by rw[hlen];exact hz);rw[hlen];refine⟨.ref s.heap.objs.size,_,I.laid (t':=s.toks) (o:=.tup (zdg xs lo hi)) (λb ob q=>Heap.get?_push_of_some _ q) (Nat.le_refl _) ?_,rfl,q _ (I.hok.fresh (Nat.le_refl _))⟩;exact⟨Nat.le_trans (zbo xs lo hi) hz,_,(r.drop (HT.sIx xs.length 0 lo)).take (HT.sIx xs.length xs.length hi-HT.sIx xs.length 0 lo),TupD.new _ _⟩
theorem Vals.nil_iff{xs:List V}{us:List Value}(r:Vals xs us):us = []↔xs = []:=by
 cases r with
 |nil=>simp
 |cons _ _=>simp
end
def ixN(n:Nat)(i:Int):Option Nat:=if 0<=i then (if i<n then some i.toNat else none) else if -(n:Int)<=i then some (i+n).toNat else none
def atI{α:Type}(xs:List α)(i:Int):Option α:=(ixN xs.length i).bind λj=>xs[j]?
theorem zjm{n:Nat}{i:Int}{j:Nat}(h:ixN n i=some j):seqIndex? i n=some j/\j<n/\-(n:Int)<=i/\i<n:=by
 unfold ixN at h
 by_cases h0:0<=i
 ·rw[if_pos h0]at h
  by_cases h1:i<n
  ·rw[if_pos h1]at h;have e:i.toNat=j:=Option.some.inj h;exact⟨by rw[seqIndex_of h0 h1,e],by omega,by omega,h1⟩
  ·rw[if_neg h1]at h;cases h
 ·rw[if_neg h0]at h
  by_cases h1 : -(n:Int)<=i
  ·rw[if_pos h1]at h;have e:(i+n).toNat=j:=Option.some.inj h;exact⟨by rw[seqIndex_neg (by omega) h1,e],by omega,h1,by omega⟩
  ·rw[if_neg h1]at h;cases h
theorem zeq{α:Type}{xs:List α}{i:Int}{v:α}(h:atI xs i=some v):∃j,seqIndex? i xs.length=some j/\xs[j]?=some v/\j<xs.length/\-(xs.length:Int)<=i/\i<xs.length:=by
 unfold atI at h
 cases e:ixN xs.length i with
 |none=>rw[e]at h;cases h
 |some j=>
  rw[e]at h;obtain⟨h1,h2,h3,h4⟩:=zjm e;exact⟨j,h1,h,h2,h3,h4⟩
theorem k8{α:Type}{xs:List α}{j:Nat}{v:α}(h:xs[j]?=some v):atI xs (j:Int)=some v:=by
 have hj:j<xs.length:=(List.getElem?_eq_some_iff.mp h).1;have e:ixN xs.length (j:Int)=some j:=by
  unfold ixN;rw[if_pos (by omega),if_pos (by omega)];simp
 unfold atI;rw[e];exact h
theorem zf6{α:Type}(xs:List α)(v:α):atI (xs ++ [v]) (-1)=some v:=by
 have hl:(xs ++ [v]).length=xs.length+1:=by simp
 have e:ixN (xs ++ [v]).length (-1)=some xs.length:=by
  unfold ixN;rw[hl,if_neg (by decide),if_pos (by omega)];congr 1;omega
 unfold atI;rw[e];show(xs ++ [v])[xs.length]?=some v;simp
def zer(b:Expr):Prop:=∀o i,subscripted b false o i=operate [o,i] (getItem o i)
def IxR(X:Cx)(r:R2):Prop :=
 ∀(value slice:Expr) (pins:List (Addr×Obj)) (s:Shared) (σ:St) (H:Hp) (x y:V) (v u:Value) (Q:VK),Inv X pins σ H s->RelV x v->RelV y u->r x y H Q ->
  subscripted slice false v u=operate [v,u] (getItem v u)->wpAny (model X.prog X.w) X.A (subscriptTail value slice v u) (EP X pins σ Q) X.xe s
def MtR(X:Cx)(id:String)(r:V->List V->Hp->VK->Prop):Prop :=
 ∀(pins:List (Addr×Obj)) (s:Shared) (σ:St) (H:Hp) (x:V) (xs:List V) (v:Value) (us:List Value) (Q:VK),Inv X pins σ H s->RelV x v->Vals xs us->r x xs H Q ->
  wpAny (model X.prog X.w) X.A (call (.builtin id) (v::us)) (EP X pins σ Q) X.xe s
section
variable {X:Cx}{a b:Expr}{ta tb:TE}{pos:Pos}
theorem IxR.or{r r':R2}(h:IxR X r)(h':IxR X r'):IxR X (λx y H Q=>r x y H Q\/r' x y H Q):=by
 intro value slice pins s σ H x y v u Q I rx ry q hs;rcases q with q|q
 ·exact h value slice pins s σ H x y v u Q I rx ry q hs
 ·exact h' value slice pins s σ H x y v u Q I rx ry q hs
theorem zbp{r:R2}(hr:IxR X r)(ha:PE X a ta)(hb:PE X b tb)(hs:zer b):PE X (.Subscript a b pos) (tOp r ta tb):=by
 intro pins s σ H Q I h;exact Subscript_ (zuw ha hb I h λv u s2 x y H2 I2 rx ry q=>hr a b pins s2 σ H2 x y v u Q I2 rx ry q (hs _ _))
def zu8(K:PySem.W.Frag):R2:=λx y H Q=>∃p xs i v,x=.ref p/\y=.int i/\SqL K H p xs/\atI xs i=some v/\Q v H
def zu9(K:PySem.W.Frag):R2:=λx y H Q=>∃p xs i v,x=.ref p/\y=.int i/\SqT K H p xs/\atI xs i=some v/\Q v H
def zva:R2:=λx y H Q=>∃z i c,x=.str z/\y=.int i/\z.length<=sizeLine/\atI z.cps.toList i=some c/\Q (.str ⟨#[c]⟩) H
theorem ix_list:IxR X (zu8 X.K):=by
 intro value slice pins s σ H x y v u Q I rx ry h hs;obtain⟨p,xs,i,z,rfl,rfl,hq,he,q⟩:=h
 cases rx;obtain⟨t,rfl⟩:=ry;obtain⟨its,r,pl,hz⟩:=I.list hq;obtain⟨j,h1,h2,h3,h4,h5⟩:=zeq he;obtain⟨w,ew,rw'⟩:=r.get h2;have hl:=r.length;have hn:=jv;have fin:EP X pins σ Q w s:=⟨z,H,I,rw',q⟩
 by_cases h0:0<=i
 ·have hj:i.toNat=j:=by
   rw[seqIndex_of h0 h5]at h1;exact Option.some.inj h1
  exact item_listR pl.isList h0 (by omega) (by rw[hj];simpa using ew) fin hs
 ·have hj:(i+(its.toArray.size:Int)).toNat=j:=by
   rw[seqIndex_neg (by omega) h4]at h1;rw[List.size_toArray,<-hl];exact Option.some.inj h1
  exact subscriptTail_builtinR (x:=w) pl.isList.typeIs slot_list_getitem.lookup
   (wpAny_getItem_list_neg (Q:=λr s'=>r=w/\EP X pins σ Q r s') pl.isList (by omega) (by rw[List.size_toArray] <;> omega) (by omega) (by rw[hj];simpa using ew) ⟨rfl,fin⟩) hs
theorem ix_tup:IxR X (zu9 X.K):=by
 intro value slice pins s σ H x y v u Q I rx ry h hs;obtain⟨p,xs,i,z,rfl,rfl,hq,he,q⟩:=h
 cases rx;obtain⟨t,rfl⟩:=ry;obtain⟨its,r,pl,hz⟩:=I.tuple hq;obtain⟨j,h1,h2,h3,h4,h5⟩:=zeq he;obtain⟨w,ew,rw'⟩:=r.get h2;have hl:=r.length;have hn:=jv;have fin:EP X pins σ Q w s:=⟨z,H,I,rw',q⟩
 exact subscriptTail_builtinR (x:=w) pl.typeIs slot_tuple_getitem.lookup
  (getItem_tuple (j:=j) (Q:=λr s'=>r=w/\EP X pins σ Q r s') pl (by omega) (by omega) (by rw[List.size_toArray,<-hl];exact h1) (by simpa using ew) ⟨rfl,fin⟩) hs
theorem zsk:IxR X zva:=by
 intro value slice pins s σ H x y v u Q I rx ry h hs;obtain⟨z,i,c,rfl,rfl,hz,he,q⟩:=h;obtain⟨t,rfl⟩:=rx;obtain⟨t',rfl⟩:=ry;obtain⟨j,h1,h2,h3,h4,h5⟩:=zeq he;have hl:z.cps.toList.length=z.length:=by simp[Str.length]
 rw[hl]at h1 h4 h5;have hn:=jv;exact tail_any (typeIs_str s z t) slot_str_getitem.lookup (getItem_str (c:=c) (by
  have e1:decide (i < -(2 ^ 63:Int))=false:=decide_eq_false (by omega);have e2:decide (i ≥ 2 ^ 63)=false:=decide_eq_false (by omega);rw[e1,e2,Bool.or_false]) (by rw[h1];simpa using h2) ⟨.str ⟨#[c]⟩,H,I.tok _,⟨_,rfl⟩,q⟩) hs
def rIx(K:PySem.W.Frag):R2:=λx y H Q=>zu8 K x y H Q\/zu9 K x y H Q\/zva x y H Q
theorem zsl:IxR X (rIx X.K):=ix_list.or (ix_tup.or zsk)
theorem zhx(its:List Value)(n j:Nat)(u:Value):Obj.mapSeq (·.setIfInBounds j u) { cls:=.type "list",data:=.seq its.toArray n } = { cls:=.type "list",data:=.seq (its.set j u).toArray n }:=by
 simp[Obj.mapSeq]
theorem Inv.lst{pins:List (Addr×Obj)}{σ:St}{H:Hp}{s:Shared}{p:Addr}{xs:List V}(I:Inv X pins σ H s)(h:H p=some (.lst xs)):
  ∃(its:List Value) (n:Nat),Vals xs its/\s.heap.get? p=some { cls:=.type "list",data:=.seq its.toArray n }/\xs.length<=sizeLine:=by
 obtain⟨z,its,n,r,e⟩:=I.hok p _ h;exact⟨its,n,r,e,z⟩
theorem Inv.lstUpd{pins:List (Addr×Obj)}{σ:St}{H:Hp}{s:Shared}{p:Addr}{xs ys:List V}{its its':List Value}{n n':Nat}{f:Obj->Obj}(I:Inv X pins σ H s)(h:H p=some (.lst xs))
  (ho:s.heap.get? p=some { cls:=.type "list",data:=.seq its.toArray n }) (hf:f { cls:=.type "list",data:=.seq its.toArray n } = { cls:=.type "list",data:=.seq its'.toArray n' }) (r:Vals ys its') (hz:ys.length<=sizeLine) (t:Nat) :
  Inv X pins σ (upd H p (.lst ys)) { s with heap:=s.heap.update p f,toks:=t }:=by
 have e:(s.heap.update p f).get? p=some { cls:=.type "list",data:=.seq its'.toArray n' }:=by
  rw[Heap.get?_update_self f ho (by rw[hf] <;> rfl),hf]
 refine I.write (x:=p) (e:=p) (by rw[h];trivial) (.inl rfl) (λb u hb q=>(Heap.get?_update_other _ _ (Ne.symm hb)).trans q) ⟨_,e⟩ ?_;exact⟨hz,its',n',r,e⟩
def zvb:V->V->V->Hp->(Hp->Prop)->Prop:=λo i v H Q=>∃p xs k j,o=.ref p/\i=.int k/\H p=some (.lst xs)/\ixN xs.length k=some j/\Q (upd H p (.lst (xs.set j v)))
theorem zf7:zur X zvb:=by
 intro pins s σ H o i v ov iv u Q I ro ri rv h;obtain⟨p,xs,k,j,rfl,rfl,hp,hj,q⟩:=h
 cases ro;obtain⟨t,rfl⟩:=ri;obtain⟨its,n,r,ho,hz⟩:=I.lst hp;obtain⟨h1,h2,h3,h4⟩:=zjm hj;have hl:=r.length;have hn:=jv;have I':Inv X pins σ (upd H p (.lst (xs.set j v))) { s with heap:=s.heap.update p (Obj.mapSeq (·.setIfInBounds j u)) } :=
  I.lstUpd hp ho (zhx its n j u) (r.set rv j) (by rw[List.length_set];exact hz) s.toks
 by_cases h0:0<=k
 ·have hk:k.toNat=j:=by
   rw[seqIndex_of h0 h4]at h1;exact Option.some.inj h1
  exact PySem.W.ki_setAt ho h0 (by omega) (by rw[List.size_toArray,<-hl];exact h4) (by rw[hk];exact⟨_,I',q⟩)
 ·have hk:(k+(its.toArray.size:Int)).toNat=j:=by
   rw[seqIndex_neg (by omega) h3]at h1;rw[List.size_toArray,<-hl];exact Option.some.inj h1
  exact PySem.W.ki_setBack ho (by omega) (by rw[List.size_toArray,<-hl];exact h3) (by omega) (by rw[hk];exact⟨_,I',q⟩)
theorem zes(lo hi:Option Int)(n:Nat):(sliceBounds lo hi none n).1=((HT.sIx n 0 lo:Nat):Int)/\(sliceBounds lo hi none n).2.1=((HT.sIx n n hi:Nat):Int)/\(sliceBounds lo hi none n).2.2=1:=by
 refine⟨?_,?_,rfl⟩
 ·cases lo with
  |none=>simp[sliceBounds,HT.sIx]
  |some i=>
   simp only[sliceBounds,HT.sIx,Option.getD_none,show(1:Int) > 0 by decide,if_true]
   by_cases h:i<0
   ·simp only[h,if_true] <;> omega
   ·simp only[h,if_false] <;> omega
 ·cases hi with
  |none=>simp[sliceBounds,HT.sIx]
  |some i=>
   simp only[sliceBounds,HT.sIx,Option.getD_none,show(1:Int) > 0 by decide,if_true]
   by_cases h:i<0
   ·simp only[h,if_true] <;> omega
   ·simp only[h,if_false] <;> omega
theorem zdh(its:List Value)(lo hi:Option Int):slicePick its.toArray lo hi none=((its.drop (HT.sIx its.length 0 lo)).take (HT.sIx its.length its.length hi-HT.sIx its.length 0 lo)).toArray:=by
 obtain⟨h1,h2,h3⟩:=zes lo hi its.toArray.size;unfold slicePick;rw[h1,h2,h3];simp only[sliceRange_one,pick_run,List.size_toArray] <;> rfl
def zxa(K:PySem.W.Frag):V->Option Int->Option Int->Hp->VK->Prop:=λx lo hi H Q=>∃a xs,x=.ref a/\SqL K H a xs/\∀p,H p=none->Q (.ref p) (upd H p (.lst (zdg xs lo hi)))
theorem zjn:SlR X (zxa X.K):=by
 intro pins s σ H x v vl vu lo hi sl Q I rx hs pl pu h;obtain⟨a,xs,rfl,hx,q⟩:=h
 cases rx;obtain⟨its,r,ht,hz⟩:=I.list hx;have hlen:=r.length;refine⟨"list",_,slot_list_getitem.lookup,ht.isList.typeIs,?_⟩;refine wpAny_getItem_list_slice ht.isList hs pl pu .none (by simp) ?_ (by rw[List.size_toArray] <;> omega);rw[zdh,<-hlen];refine⟨.ref s.heap.objs.size,_,I.laid (t':=s.toks) (o:=.lst (zdg xs lo hi)) (λb ob q=>Heap.get?_push_of_some _ q) (Nat.le_refl _) ?_,rfl,q _ (I.hok.fresh (Nat.le_refl _))⟩;exact⟨Nat.le_trans (zbo xs lo hi) hz,_,0,(r.drop (HT.sIx xs.length 0 lo)).take (HT.sIx xs.length xs.length hi-HT.sIx xs.length 0 lo),Heap.get?_push_size _ rfl⟩
theorem zet:xy X (.builtin "len") (λxs H Q=>∃p ys,xs = [.ref p]/\(SqL X.K H p ys\/SqT X.K H p ys)/\Q (.int ys.length) H):=by
 intro pins s σ H xs us Q I r h;obtain⟨p,ys,rfl,hq,q⟩:=h;obtain⟨u,rfl,rx⟩:=zdq r
 cases rx;have hn:=jv;rcases hq with hq|hq
 ·obtain⟨its,r',pl,hz⟩:=I.list hq;have hlen:=r'.length;exact Calls.call_len_list pl.isList (by simp only[List.size_toArray] <;> omega) ⟨.int ys.length,H,I.tok _,⟨s.toks+1,by rw[List.size_toArray,hlen]⟩,q⟩
 ·obtain⟨its,r',pl,hz⟩:=I.tuple hq;have hlen:=r'.length;exact len_tuple pl (by simp only[List.size_toArray] <;> omega) ⟨.int ys.length,H,I.tok _,⟨s.toks+1,by rw[List.size_toArray,hlen]⟩,q⟩
theorem zeu:xy X (.type "list") (λxs H Q=>∃p ys,xs = [.ref p]/\(SqL X.K H p ys\/SqT X.K H p ys)/\∀l,H l=none->Q (.ref l) (upd H l (.lst ys))):=by
 intro pins s σ H xs us Q I r h;obtain⟨p,ys,rfl,hq,q⟩:=h;obtain⟨u,rfl,rx⟩:=zdq r
 cases rx;have fin:∀(its:List Value),Vals ys its->ys.length<=sizeLine->∀(h':Heap) (c':Nat),(∀b o',s.heap.get? b=some o'->h'.get? b=some o') ->
   h'.get? s.heap.objs.size=some { cls:=.type "list",dict:=none,data:=.seq its.toArray c',slots:=#[] }->EP X pins σ Q (.ref s.heap.objs.size) { s with heap:=h' }:=λits r' hz h' c' kp e=>
  ⟨.ref s.heap.objs.size,_,I.laid (t':=s.toks) kp (Nat.le_refl _) (show ObjOk X.prog X.w _ h' _ (.lst ys) from⟨hz,its,c',r',e⟩),rfl,q _ (I.hok.fresh (Nat.le_refl _))⟩
 rcases hq with hq|hq
 ·obtain⟨its,r',pl,hz⟩:=I.list hq;have hlen:=r'.length;obtain⟨o,ho,hc,n,hd⟩:=pl.isList;exact call_list_seq p (.inl rfl) ho hc hd (λh' c' kp e=>fin its r' hz h' c' kp e) (by simp only[List.size_toArray] <;> omega)
 ·obtain⟨its,r',pl,hz⟩:=I.tuple hq;have hlen:=r'.length;obtain⟨o,ho,hc,n,hd⟩:=pl;exact call_list_seq p (.inr rfl) ho hc hd (λh' c' kp e=>fin its r' hz h' c' kp e) (by simp only[List.size_toArray] <;> omega)
theorem zdi:xy X (.type "tuple") (λxs H Q=>∃p ys,xs = [.ref p]/\((SqL X.K H p ys/\∀l,H l=none->Q (.ref l) (upd H l (.tup ys)))\/(SqT X.K H p ys/\Q (.ref p) H))):=by
 intro pins s σ H xs us Q I r h;obtain⟨p,ys,rfl,h⟩:=h;obtain⟨u,rfl,rx⟩:=zdq r
 cases rx;rcases h with⟨hq,q⟩ |⟨hq,q⟩
 ·obtain⟨its,r',pl,hz⟩:=I.list hq;have hlen:=r'.length;refine call_tuple_list pl.isList (λh' kp=>?_) (by simp only[List.size_toArray] <;> omega);have I1:Inv X pins σ H { s with heap:=h' }:=I.kept (t':=s.toks) kp
  have I2:Inv X pins σ (upd H h'.objs.size (.tup ys)) { s with heap:=h'.push { cls:=.type "tuple",data:=.seq its.toArray } } :=
   I1.laid (t':=s.toks) (λb o e=>Heap.get?_push_of_some _ e) (Nat.le_refl _) (show ObjOk X.prog X.w _ _ _ (.tup ys) from⟨hz,its,r',TupD.new _ _⟩)
  exact⟨.ref h'.objs.size,_,I2,rfl,q _ (I1.hok.fresh (Nat.le_refl _))⟩
 ·obtain⟨its,r',pl,hz⟩:=I.tuple hq;exact call_tuple_same pl ⟨.ref p,H,I,rfl,q⟩
def tyV(K:PySem.W.Frag)(T:String)(x:V)(H:Hp):Prop:=match x with
 |.str _=>T = "str"
 |.int _=>T = "int"
 |.ref p=>(T = "list" /\ ∃xs,SqL K H p xs)\/(T = "tuple" /\ ∃xs,SqT K H p xs) \/
   (T = "dict" /\((∃kvs,H p=some (.dK kvs))\/∃kvs,H p=some (.dT kvs)))\/(T = "set" /\ ∃S n,H p=some (.set S n))
 |_=>False
theorem zsm{pins:List (Addr×Obj)}{σ:St}{H:Hp}{s:Shared}{T:String}{x:V}{v:Value}(I:Inv X pins σ H s)(r:RelV x v)(ty:tyV X.K T x H):
  s.TypeIs v T/\∀a,v=.ref a->∃ob,s.heap.get? a=some ob/\ob.dict=none:=by
 cases x with
 |str z=>
  obtain⟨t,rfl⟩:=r
  cases (show T = "str" from ty);exact⟨typeIs_str s z t,λ_ e=>nomatch e⟩
 |int i=>
  obtain⟨t,rfl⟩:=r
  cases (show T = "int" from ty);exact⟨typeIs_int s i t,λ_ e=>nomatch e⟩
 |ref p=>
  cases r;rcases ty with⟨rfl,xs,hq⟩ |⟨rfl,xs,hq⟩ |⟨rfl,hk⟩ |⟨rfl,S,n,hk⟩
  ·obtain⟨its,_,pl,_⟩:=I.list hq;refine⟨pl.isList.typeIs,λa e=>?_⟩
   cases e;obtain⟨o,n,e,c,hd,_⟩:=pl;exact⟨o,e,hd⟩
  ·obtain⟨its,_,pl,_⟩:=I.tupleD hq;refine⟨pl.isTup.typeIs,λa e=>?_⟩
   cases e;obtain⟨o,e,_,_,hd⟩:=pl;exact⟨o,e,hd⟩
  ·have z:∃o,s.heap.get? p=some o/\o.ExactDict:=by
    rcases hk with⟨kvs,hk⟩ |⟨kvs,hk⟩
    ·obtain⟨_,_,_,_,o,_,_,e,ex,_⟩:=I.hok p _ hk;exact⟨o,e,ex⟩
    ·obtain⟨_,_,_,_,o,_,_,e,ex,_⟩:=I.hok p _ hk;exact⟨o,e,ex⟩
   obtain⟨o,e,ex⟩:=z;refine⟨⟨o,e,ex.1⟩,λa e2=>?_⟩
   cases e2;exact⟨o,e,ex.2.1⟩
  ·obtain⟨o,_,_,_,e,ex,_⟩:=I.hok p _ hk;refine⟨⟨o,e,ex.1⟩,λa e2=>?_⟩
   cases e2;exact⟨o,e,ex.2.1⟩
 |_=>exact False.elim ty
def tBM(K:PySem.W.Frag)(T:String)(r:V->List V->Hp->VK->Prop)(to:TE)(t:TA):TE:=λσ H Q=>to σ H λx H1=>tyV K T x H1/\t σ H1 λxs H2=>r x xs H2 Q
variable {o e:Expr}{es:List Expr}{to:TE}{t:TA}{name:Str}{apos cpos:Pos}{T id:String}{r:V->List V->Hp->VK->Prop}
theorem zmd(pa:PlainAttrs T)(slot:Slot T name id)(hty:typeOf (.builtin id)=pure (.type "method_descriptor"))(hm:MtR X id r)(ho:PE X o to)(ha:PA X (e::es) t)
  (hbase:attributeBase o name X.env (eval o X.env)=eval o X.env:=by rfl)
  (hfew:((backTo cpos (starEach (e::es) X.env)).all (λx=>!x.1) && (backToKw cpos (keywordEach [] X.env)).all (λx=>x.1.isSome)
   && decide ((e::es).length+([]:List Keyword).length+(if ([]:List Keyword).isEmpty then 0 else 1)<30))=true:=by rfl)
  (hline:(apos.endLine == cpos.line)=true:=by rfl) (hs:starEach (e::es) X.env=(false,eval e X.env)::starEach es X.env:=by rfl) (hplain:(backTo cpos (starEach es X.env)).any (·.1)=false:=by rfl) :
  PE X (.Call (.Attribute o name apos) (e::es) [] cpos) (tBM X.K T r to t):=by
 intro pins s σ H Q I h;refine wpAny_Call_method_late hbase hfew hline rfl (thn (ho pins s σ H _ I h) λv s1 ⟨x,H1,I1,r1,ty,q1⟩=>?_);obtain⟨h1,h2⟩:=zsm I1 r1 ty;refine⟨T,id,pa,slot,hty,h1,h2,?_⟩;have hA:=ha cpos pins s1 σ H1 _ I1 q1;rw[hs]at hA ⊢;refine Calls.callWith_builtin (by show(false ||(backTo cpos (starEach es X.env)).any (·.1))=false;rw[hplain] <;> rfl) (Calls.evalArgs_plain ?_);exact thn hA λus s2 ⟨vs,H2,I2,r2,q2⟩=>hm pins s2 σ H2 x vs v us Q I2 r1 r2 q2
end
def MtM(X:Cx)(id:String)(r:V->List V->Hp->VK->Prop):Prop :=
 ∀(pins:List (Addr×Obj)) (s:Shared) (σ:St) (H:Hp) (x:V) (xs:List V) (v:Value) (us:List Value) (Q:VK),Inv X pins σ H s->RelV x v->Vals xs us->r x xs H Q ->
  wpAny (model X.prog X.w) X.A (call (.builtin id) (v::us)) (EP X pins σ Q) X.xe s
theorem Vals.one{x:V}{us:List Value}(h:Vals [x] us):∃u,us = [u]/\RelV x u:=by
 cases h with
 |cons r h=>cases h;exact⟨_,rfl,r⟩
theorem Vals.two{x y:V}{us:List Value}(h:Vals [x,y] us):∃u v,us = [u,v]/\RelV x u/\RelV y v:=by
 cases h with
 |cons r h=>obtain⟨v,rfl,q⟩:=Vals.one h;exact⟨_,v,rfl,r,q⟩
theorem Vals.zero:∀{us:List Value},Vals [] us->us = []
 |_,.nil=>rfl
theorem Vals.reverse{xs:List V}{us:List Value}(h:Vals xs us):Vals xs.reverse us.reverse:=by
 induction h with
 |nil=>exact .nil
 |cons r t ih=>rw[List.reverse_cons,List.reverse_cons];exact Vals.append ih (.cons r .nil)
theorem Vals.rep{xs:List V}{us:List Value}(h:Vals xs us):∀k:Nat,Vals (List.replicate k xs).flatten (List.replicate k us).flatten
 |0=>.nil
 |k+1=>by
  rw[List.replicate_succ,List.replicate_succ,List.flatten_cons,List.flatten_cons];exact Vals.append h (Vals.rep h k)
theorem zdw(its:List Value):∀(k:Nat) (acc:List Value),
  List.foldl (λx1 x2=>x1++x2) acc.toArray (List.replicate k its.toArray)=(acc++(List.replicate k its).flatten).toArray
 |0,acc=>by simp
 |k+1,acc=>by
  have e:acc.toArray++its.toArray=(acc++its).toArray:=by simp
  have e2:(acc++its)++(List.replicate k its).flatten=acc++(List.replicate (k+1) its).flatten:=by
   rw[List.replicate_succ,List.flatten_cons,List.append_assoc]
  rw[<-e2,<-zdw its k (acc++its),<-e,List.replicate_succ,List.foldl_cons]
section
variable {X:Cx}{pins:List (Addr×Obj)}{σ:St}{H:Hp}{s:Shared}{l b:Addr}{xs ys zs:List V}
theorem Inv.lset{its its':List Value}{n:Nat}{f:Array Value->Array Value}{t':Nat}(I:Inv X pins σ H s)(hH:H l=some (.lst xs))
  (e:s.heap.get? l=some { cls:=.type "list",data:=.seq its.toArray n }) (hf:f its.toArray=its'.toArray) (hv:Vals ys its') (hz:ys.length<=sizeLine) :
  Inv X pins σ (upd H l (.lst ys)) { s with heap:=s.heap.update l (Obj.mapSeq f),toks:=t' }:=by
 have q:=PySem.IsL.update e f;rw[hf]at q;refine I.write (x:=l) (e:=l) (by rw[hH];exact trivial) (.inl rfl) (λb' u hb hu=>(Heap.get?_update_other s.heap (Obj.mapSeq f) (Ne.symm hb)).trans hu) ⟨_,q⟩ ?_;exact⟨hz,its',_,hv,q⟩
theorem Inv.lnew{its:List Value}{t':Nat}(I:Inv X pins σ H s)(hv:Vals ys its)(hz:ys.length<=sizeLine):
  Inv X pins σ (upd H s.heap.objs.size (.lst ys)) { s with heap:=s.heap.push { cls:=.type "list",data:=.seq its.toArray },toks:=t' } :=
 I.laid (λ_ _ q=>Heap.get?_push_of_some _ q) (Nat.le_refl _) ⟨hz,its,0,hv,Heap.get?_push_size _ rfl⟩
theorem Inv.fresh(I:Inv X pins σ H s):H s.heap.objs.size=none:=I.hok.fresh (Nat.le_refl _)
theorem Inv.lstM(I:Inv X pins σ H s)(hH:H l=some (.lst xs)):xs.length<=sizeLine/\∃(its:List Value) (n:Nat),Vals xs its/\xs.length=its.length/\s.heap.get? l=some { cls:=.type "list",data:=.seq its.toArray n }:=by
 obtain⟨z,its,n,r,e⟩:=I.hok l _ hH;exact⟨z,its,n,r,r.length,e⟩
theorem zf8{n:Nat}(h:n<=sizeLine):Builtin.List.listTooLong n=false:=by
 unfold Builtin.List.listTooLong;exact decide_eq_false (by omega)
end
section
variable {X:Cx}
def zo6:V->List V->Hp->VK->Prop:=λx vs H Q=>∃l xs y,x=.ref l/\vs = [y]/\H l=some (.lst xs)/\xs.length<sizeLine/\Q .non (upd H l (.lst (xs ++ [y])))
theorem zdx:MtM X "list.append" zo6:=by
 intro pins s σ H x vs v us Q I rx rv h;obtain⟨l,xs,y,rfl,rfl,hH,hz,q⟩:=h
 cases rx;obtain⟨u,rfl,ru⟩:=rv.one;obtain⟨z,its,n,r,hl,e⟩:=I.lstM hH;refine call_meets F.slot_list_append ⟨_,e,rfl⟩ F.entry_list_append (F.args_list_append_2 _ _) (PySem.list_append l its.toArray n u (by rw[List.size_toArray];omega)) ⟨e,?_⟩;refine⟨.non,_,I.lset (its':=its ++ [u]) hH e (by simp) (r.append (.cons ru .nil)) ?_,rfl,q⟩;rw[List.length_append,List.length_singleton];omega
def zo7:V->List V->Hp->VK->Prop:=λx vs H Q=>∃l b xs zs,x=.ref l/\vs = [.ref b]/\H l=some (.lst xs)/\H b=some (.lst zs)/\xs.length+zs.length<=sizeLine/\Q .non (upd H l (.lst (xs++zs)))
theorem zk4:MtM X "list.extend" zo7:=by
 intro pins s σ H x vs v us Q I rx rv h;obtain⟨l,b,xs,zs,rfl,rfl,hH,hB,hz,q⟩:=h
 cases rx;obtain⟨u,rfl,ru⟩:=rv.one
 cases ru;obtain⟨z,its,n,r,hl,e⟩:=I.lstM hH;obtain⟨z2,its2,n2,r2,hl2,e2⟩:=I.lstM hB;have hsz:its.toArray.size+its2.toArray.size<=sizeLine:=by rw[List.size_toArray,List.size_toArray];omega
 have hlong:¬ (!its.toArray.isEmpty && Builtin.List.listTooLong (its.toArray.size+its2.toArray.size))=true:=by
  rw[zf8 hsz,Bool.and_false];exact Bool.false_ne_true
 refine call_meets F.slot_list_extend ⟨_,e,rfl⟩ F.entry_list_extend (F.args_list_extend_2 _ _)
  (AutoSeq1.list_extend_list_list_0 l its.toArray n b its2.toArray n2 hlong (by rw[List.size_toArray];omega) (by omega)) ⟨e,e2,?_⟩
 refine⟨.non,_,I.lset (its':=its++its2) hH e (by simp) (r.append r2) ?_,rfl,q⟩;rw[List.length_append];omega
theorem zo8{α:Type}(xs:List α)(k:Nat):(List.replicate k xs).flatten.length=k * xs.length:=by
 induction k with
 |zero=>simp
 |succ k ih=>rw[List.replicate_succ,List.flatten_cons,List.length_append,ih,Nat.succ_mul,Nat.add_comm]
end
section
variable {prog:Program}{w:World}{A:Around}{E:Value->Shared->Prop}{s:Shared}
end
section
variable {X:Cx}
end
end L2
namespace Att
open PySem PySem.W PySem.Calls PyProof.Rows
theorem zbx{P:Params}{h:Heap}:∀(ns:List Int) (vs:List Value),WellAll P h vs (ns.map WData.int)->IntsAre vs ns:=by
 intro ns
 induction ns with
 |nil=>
  intro vs w;rw[List.map_nil]at w
  cases w;exact .nil
 |cons n ns ih=>
  intro vs w;rw[List.map_cons]at w
  cases w with
  |cons a b=>
   cases a;exact .cons _ _ (ih _ b)
theorem zk5{l:OpenLaw}{n:Nat}(hn:l.most=some n){P:Params}{h:Heap}{args:List WData}{vals:List Value}
  (hpre:l.row.toRowW.claim.pre args=true) (hwl:WellAll P h vals args) :
  ∃a vs ns,vals = [Value.ref a]/\args = [WData.list (ns.map WData.int)]/\h.get? a=some { cls:=.type "list",data:=.seq vs.toArray }/\IntsAre vs ns/\ns.length<=n:=by
 have hsh:WShape.hasAll [] args [.list .int]=true:=(pre_splitW hpre).1;have hc:l.pre.holds [] { args:=args }=true:=(pre_splitW hpre).2;obtain⟨d,r,rfl,h1,h2⟩:=hasAllW_cons hsh;obtain rfl:=hasAllW_nil h2;obtain⟨xs,rfl,h3⟩:=hasW_list h1;obtain⟨ns,rfl⟩:=items_int h3;have hlen:ns.length<=n:=by
  unfold OpenLaw.pre at hc;have h4:(WTm.not (.lt (.lit (.int (n:Int))) (.len (.arg 0)))).holds [] { args:=[.list (ns.map .int)] }=true:=by
   have h4:=(holds_andW hc).1;rw[hn]at h4;exact h4
  have h5:=condW_of h4 (w_not (w_lt w_lit (w_len_list (w_arg rfl))));rw[List.length_map]at h5;refine Nat.le_of_not_lt λq=>?_;have q':(n:Int)<((ns.length:Nat):Int):=by omega
  first
   |(rw[decide_eq_true q']at h5;exact absurd h5 (by decide))
   |(simp at h5;omega)
 cases hwl with
 |cons w1 w2=>
  cases w2
  cases w1 with
  |list ho hall=>exact⟨_,_,ns,rfl,rfl,ho,zbx ns _ hall,hlen⟩
theorem zk6(l:OpenLaw)(args:List WData):l.row.toRowW.claim.post args (.bool true) args=true :=
 postW_of (r:=l.row.toRowW) (X:=(true == true))
  (show WShape.has [] (.bool true) .bool=true by first|rfl|decide|simp[WShape.has,WShape.arms,WShape.armsAll])
  (show(WTm.eq .res (.lit (.bool true))).value [] { args:=args,res:=some (.bool true),after:=args }=some (.bool (true == true)) from w_eq_bool (w_res rfl) w_lit) rfl
theorem attach_call{l:OpenLaw}{n:Nat}{q:Program}{loose:List Str}{XP:(Str->Option Value)->Heap->Prop}{YP:World->Heap->Prop}{d:DefRec}
  (hn:l.most=some n) (hdf:d.params.defaults = [])
  (call:∀(w:World) (s₀ s₁:Shared) (mg mb:Str->Option Value) (fa:Addr) (o:Obj) (pm cd doc:Value) (a:Addr) (vs:List Value) (ns:List Int),
   Ground q loose [] XP w s₀ mg mb s₁.heap->YP w s₁.heap ->
   s₁.heap.get? fa=some o->o.data=.func (docDef d.name d.params d.body d.scope pm cd doc)->s₁.heap.CodeRec cd d.name->mg d.name=some (.ref fa) ->
   s₁.heap.get? a=some { cls:=.type "list",data:=.seq vs.toArray }->IntsAre vs ns->ns.length<=n->s₁.gens = #[] ->
   codeAny (model l.prog w) callerA (.call (.ref fa) ⟨[.ref a],[]⟩) (λr s'=>r=.ok (.ret (.bool true))/\OldK s₁.heap s'.heap/\s'.os=s₁.os/\AllBare s'.gens) s₁) :
  WalkO q loose XP YP l.row.toRowW d [] (λf vs=>PySem.call f vs):=by
 intro w s₀ s₁ mg mb G Y fa o pm cd doc dV kV ho hd hcd hD hmg hg args vals as hpre hlay hrd hwl hlo;obtain rfl:dV=.none:=Dflts.none hD hdf;obtain rfl:kV=.none:=Dflts.noKw hD;obtain⟨a,vs,ns,rfl,rfl,hobj,hints,hlen⟩:=zk5 hn hpre hwl;refine enter_call (codeAny_mono (call w s₀ s₁ mg mb fa o pm cd doc a vs ns G Y ho (fd_plain hd) hcd hmg hobj hints hlen hg) λr s' hq=>?_);obtain⟨rfl,h2,h3,h4⟩:=hq;exact⟨.inl ⟨.bool true,.bool true,[],rfl,λ_=>rfl,.bool true,zk6 l _,λ_=>⟨List.Pairwise.nil,λ_ hm=>(nomatch hm)⟩⟩,h2,h3,h4⟩
section
variable {prog:Program}{w:World}{A:Around}{E:Value->Shared->Prop}{s:Shared}{K:Frag}
end
end Att
namespace L2
open PySem PySem.Spec PyProof.Rows
theorem zdy:∀{vs:List Value}{ns:List Int},IntsAre vs ns->Vals (ns.map V.int) vs
 |_,_,.nil=>.nil
 |_,_,.cons n t h=>.cons ⟨t,rfl⟩ (zdy h)
def zsn(H:Hp):Prop:=∀b,H b=none\/∃o xs,H b=some (.frz o (.lst xs))
theorem zme{P:Program}{w:World}{K:PySem.W.Frag}{mg mb:Str->Option Value}{CX:CXT}{k:Nat}{fa a:Addr}{fd:FuncData}{x:Str}{sp:Sp}{s₁:Shared}{vs:List Value}{ns:List Int}
  (KX:K.In s₁.heap) (hns:s₁.heap.Ns mainGlobals mg) (hb:s₁.heap.Ns builtinsNs mb) (hbb:∀x:Str,x ≠ "__name__" -> mb x=bootBuiltins x) (hlim:s₁.heap.NoLimit) (hg:s₁.gens = #[])
  (ha:s₁.heap.get? a=some { cls:=.type "list",data:=.seq vs.toArray }) (hi:IntsAre vs ns) (hl:ns.length<=sizeLine) (hr:Room k callerA)
  (F:∀base:Heap,K.In base->base.Ns mainGlobals mg->FnOk P w K mg base CX k fa fd [x] sp) (hbind:∀(s:Shared) (u:Value),BindsTo s fd ⟨[u],[]⟩ [(x,u)])
  (hsp:∀H:Hp,zsn H->SqL K H a (ns.map V.int)->sp [.ref a] H (λv _=>v=.bl true) λ_ _ _=>False)
  (hCX:∀H e s',CX [] H s₁ (λ_ _ _=>False) e s'->False) :
  codeAny (model P w) callerA (.call (.ref fa) ⟨[.ref a],[]⟩) (λr s'=>r=.ok (.ret (.bool true))/\OldK s₁.heap s'.heap/\s'.os=s₁.os/\AllBare s'.gens) s₁:=by
 have rv:=zdy hi;have lenV:=hi.length
 -- from an abstract heap in which nothing but the script may be tracked
 have core:∀H:Hp,zsn H->SqL K H a (ns.map V.int)->HOk P w H s₁.heap->(∀b,H b≠none->b=a)->(H a≠none->K.lookup a=none) ->
   codeAny (model P w) callerA (.call (.ref fa) ⟨[.ref a],[]⟩) (λr s'=>r=.ok (.ret (.bool true))/\OldK s₁.heap s'.heap/\s'.os=s₁.os/\AllBare s'.gens) s₁:=by
  intro H hO hS hok hA hK;have base_of:∀{b:Addr}{o:Obj},s₁.heap.get? b=some o->H b=none->(zep s₁.heap H).get? b=some o:=λe n=>zl3 e n;have noA:∀{b:Addr}{o:Obj}{es:Array DictEntry}{ep:Nat},s₁.heap.get? b=some o->o.data=.dict es ep->H b=none:=λ{b o es ep} e d=>by
   cases q:H b with
   |none=>rfl
   |some u=>
    have e':b=a:=hA b (by rw[q];simp);subst e';rw[ha]at e;cases e;have d':Data.seq vs.toArray _=Data.dict es ep:=d
    cases d'
  have nsK:∀{b:Addr}{m:Str->Option Value},s₁.heap.Ns b m->(zep s₁.heap H).Ns b m:=λ{b m} ⟨o,es,ep,e,d,r⟩=>⟨o,es,ep,base_of e (noA e d),d,r⟩
  have hKb:K.In (zep s₁.heap H):=λb o e=>base_of (KX b o e) (by
   cases q:H b with
   |none=>rfl
   |some u=>
    have e':b=a:=hA b (by rw[q];simp);subst e';rw[hK (by rw[q];simp)]at e;cases e)
  have hM:Mod K mg (zep s₁.heap H):=⟨hKb,nsK hns,⟨mb,nsK hb,hbb⟩,let ⟨mc,h1,h2⟩:=hlim;⟨mc,nsK h1,h2⟩⟩
  have e0:zhs P w K mg (zep s₁.heap H) callerA [] s₁ H:=⟨rfl,hM,λb o e=>zou e,Nat.le_of_eq (zkt _ _),trivial,λb hb=>absurd (show b∈([]:List Addr) from hb) (by simp),hok,.of_eq hg⟩
  refine codeAny_mono ((F _ hKb (nsK hns)).run callerA [] s₁ H ⟨[.ref a],[]⟩ [.ref a] [.ref a] _ _ hr e0 (hbind s₁ (.ref a)) (.cons rfl .nil) (hsp H hO hS)) λr s' h=>?_
  cases r with
  |error e=>exact(hCX H e s' h).elim
  |ok fl=>
   cases fl with
   |next=>exact False.elim h
   |brk=>exact False.elim h
   |cont=>exact False.elim h
   |ret u=>
    obtain⟨v,H',os,bare,un,hok',r',q⟩:=h;have q':v=.bl true:=q;subst q';obtain rfl:u=Value.bool true:=r';refine⟨rfl,OldK.of_keep λb o e=>?_,os,bare⟩
    cases q:H b with
    |none=>exact un.keep b o e q (by intro z;exact absurd (show b∈([]:List Addr) from z) (by simp)) (by simp)
    |some u=>
     rcases hO b with z |⟨ob,xs,z⟩
     ·rw[q]at z;cases z
     ·have z2:=un.frzs b ob _ z;obtain⟨e1,_⟩:=hok b _ z;obtain⟨e2,_⟩:=hok' b _ z2;rw[e]at e1;cases e1;exact e2
 cases hk:K.lookup a with
 |some o=>
  -- the script is one of the module's own objects
  have e:=KX a o hk;rw[ha]at e
  cases e;refine core (λ_=>none) (λ_=>.inl rfl) (.inr ⟨_,vs.toArray,_,hk,rfl,rfl,rfl,by rw[List.size_toArray,lenV];exact hl,by simpa using rv⟩) (λb u z=>by have z':(none:Option HO)=some u:=z;cases z') (λb z=>absurd rfl z) λz=>absurd rfl z
 |none=>
  refine core (λb=>if b=a then some (.frz { cls:=.type "list",data:=.seq vs.toArray } (.lst (ns.map V.int))) else none) (λb=>?_) (.inl (.inr ⟨{ cls:=.type "list",data:=.seq vs.toArray },if_pos rfl⟩)) (λb u z=>?_) (λb z=>?_) λ_=>hk
  ·by_cases hb:b=a
   ·exact .inr ⟨_,_,if_pos hb⟩
   ·exact .inl (if_neg hb)
  ·by_cases hb:b=a
   ·have z':=(if_pos hb).symm.trans z
    cases z';subst hb;exact⟨ha,by rw[List.length_map];exact hl,vs,_,rv,ha⟩
   ·have z':=(if_neg hb).symm.trans z
    cases z'
  ·by_cases hb:b=a
   ·exact hb
   ·exact absurd (if_neg hb) z
theorem walk_of{l:PySem.W.OpenLaw}{n k:Nat}{q:Program}{loose:List Str}{XP:(Str->Option Value)->Heap->Prop}{YP:World->Heap->Prop}{d:DefRec}{K:Params->PySem.W.Frag}{CX:World->CXT}{sp:World->Sp}{x:Str}
  (hn:l.most=some n) (hn2:n<=sizeLine) (hdf:d.params.defaults = []) (hr:Room k callerA)
  (hY:∀(w:World) (h:Heap),YP w h->(K w.params).In h)
  (F:∀(w:World) (mg:Str->Option Value) (fa:Addr) (h:Heap),(K w.params).In h->h.Ns mainGlobals mg->mg d.name=some (.ref fa) ->
   ∃fd:FuncData,(∀(s:Shared) (u:Value),BindsTo s fd ⟨[u],[]⟩ [(x,u)]) /\
    ∀base:Heap,(K w.params).In base->base.Ns mainGlobals mg->FnOk l.prog w (K w.params) mg base (CX w) k fa fd [x] (sp w))
  (hsp:∀(w:World) (H:Hp) (a:Addr) (ns:List Int),ns.length<=n->zsn H->SqL (K w.params) H a (ns.map V.int)->sp w [.ref a] H (λv _=>v=.bl true) λ_ _ _=>False)
  (hCX:∀(w:World) (H:Hp) (s:Shared) (e:Value) (s':Shared),CX w [] H s (λ_ _ _=>False) e s'->False) :
  PySem.W.WalkO q loose XP YP l.row.toRowW d [] (λf vs=>PySem.call f vs):=by
 refine Att.attach_call hn hdf λw s₀ s₁ mg mb fa o pm cd doc a vs ns G Y ho hd hcd hmg hobj hints hlen hg=>?_;have KX:=hY w _ Y;obtain⟨fd,hb,hF⟩:=F w mg fa _ KX G.T.g hmg;exact zme KX G.T.g G.T.b G.T.builtins G.T.nolimit hg hobj hints (Nat.le_trans hlen hn2) hr hF hb (λH hO hS=>hsp w H a ns hlen hO hS) λH e s'=>hCX w H s₁ e s'
def qc(s:Stmt):Arguments:=match s with
 |.FunctionDef _ a _ _ _ _ _ _ _ _=>a
 |_=>{ posonlyargs:=[],args:=[],vararg:=none,kwonlyargs:=[],kw_defaults:=[],kwarg:=none,defaults:=[] }
def wf(s:Stmt):List Stmt:=match s with
 |.FunctionDef _ _ b _ _ _ _ _ _ _=>b
 |_=>[]
def zp(s:Stmt):Scope:=match s with
 |.FunctionDef _ _ _ _ _ _ sc _ _ _=>sc
 |_=>{ kind:=.function,names:=[],isGenerator:=false,isCoroutine:=false }
abbrev CX0:CXT:=λ_ _ _ _ _ _=>False
abbrev E0:XK:=λ_ _ _=>False
theorem zvc{X:Cx}:zht CX0 X E0:=λ_ _ _ _ _ _ _ h=>h.elim
structure Fun(K:PySem.W.Frag)(x qual:Str)(st:Stmt)(f:Addr)(fd:FuncData):Prop where
 ex:∃(oc:Value) (od:Option Addr) (kV doc pm:Value) (an:Option Addr) (cdv ct:Value) (osl:Array (Option Value)),
  fd=PySem.W.fnOf x qual (qc st) (wf st) (zp st) .none kV doc pm an cdv ct/\K.lookup f=some ⟨oc,od,.func fd,osl⟩/\PySem.W.codeIn K cdv qual=true
 kp:PySem.W.keepIn K (.ref f)=true
section
variable {P:Program}{w:World}{K:PySem.W.Frag}{mg:Str->Option Value}{base:Heap}
theorem Fun.ok{x qual:Str}{st:Stmt}{f:Addr}{fd:FuncData}{N ps:List Str}{k:Nat}{sp:Sp}(F:Fun K x qual st f fd)(S:zy N ps (zp st))(len:∀vs H Q E,sp vs H Q E->vs.length=ps.length)
  (hbody:∀(cdv:Value) (A:Around) (outer:List Env) (s:Shared) (H:Hp) (vs:List V) (Q:VK) (E:XK),Room k (A.deeper (envOfC qual (zp st) s.heap.objs.size f cdv))->sp vs H Q E ->
   ∃t,PSs (zhu CX0 P w K mg base N qual (zp st) f cdv A outer s H E).nox (wf st) t/\t { nx:=λ_ H'=>Q .non H',rt:=Q } (jp N vs) H):FnOk P w K mg base CX0 (k+1) f fd ps sp:=by
 obtain⟨oc,od,kV,doc,pm,an,cdv,ct,osl,rfl,lk,hcd⟩:=F.ex;refine zu6 lk hcd S len λA outer s H vs Q E hr hsp=>?_;obtain⟨t,h,q⟩:=hbody cdv A outer s H vs Q E hr hsp;exact⟨t,h.nox,q⟩
theorem Fun.binds{x qual:Str}{st:Stmt}{f:Addr}{fd:FuncData}{ps:List Str}(F:Fun K x qual st f fd)
  (h:∀(kV doc pm:Value) (an:Option Addr) (cdv ct:Value) (us:List Value),us.length=ps.length->bindArgs (PySem.W.fnOf x qual (qc st) (wf st) (zp st) .none kV doc pm an cdv ct) ⟨us,[]⟩=pure (ps.zip us)):Binds K fd ps []:=by
 obtain⟨oc,od,kV,doc,pm,an,cdv,ct,osl,rfl,lk,hcd⟩:=F.ex;exact .all (h kV doc pm an cdv ct)
theorem zso{x qual:Str}{st:Stmt}{f:Addr}{oc:Value}{od an:Option Addr}{osl:Array (Option Value)}{kV doc pm cdv ct:Value}(l:K.lookup f=some ⟨oc,od,.func (PySem.W.fnOf x qual (qc st) (wf st) (zp st) .none kV doc pm an cdv ct),osl⟩)
  (c:PySem.W.codeIn K cdv qual=true) (k:PySem.W.keepIn K (.ref f)=true):Fun K x qual st f (PySem.W.fnOf x qual (qc st) (wf st) (zp st) .none kV doc pm an cdv ct):=⟨⟨oc,od,kV,doc,pm,an,cdv,ct,osl,rfl,l,c⟩,k⟩
end
section
variable {X:Cx}
theorem pv(i:Nat){x:Str}{pos:Pos}(hN:X.N[i]?=some x:=by rfl)(hv:Vis X.env.scope x:=by first|exact Or.inl rfl|exact Or.inr (Or.inl rfl)|exact Or.inr (Or.inr rfl))(hd:(x ==("__debug__" : Str))=false:=by decide)
  (hcd:(x ==("__classdict__" : Str))=false:=by decide):PE X (.Name x pos) (zul i):=x3 hN hv hd hcd
end
theorem zxb{A B:Prop}(h:B):if false=true then A else B:=by
 rw[if_neg Bool.false_ne_true];exact h
theorem zvd{c A B:Prop}[Decidable c](h1:c->A)(h2:¬ c->B):if c then A else B:=by
 by_cases h:c
 ·rw[if_pos h];exact h1 h
 ·rw[if_neg h];exact h2 h
def Same(H H':Hp):Prop:=∀b o,H b=some o->H' b=some o
theorem Same.refl(H:Hp):Same H H:=λ_ _ h=>h
theorem Same.trans{H H1 H2:Hp}(a:Same H H1)(b:Same H1 H2):Same H H2:=λc o h=>b c o (a c o h)
theorem Same.free{H H':Hp}(e:Same H H'){l:Addr}(h:H' l=Option.none):H l=Option.none:=by
 cases q:H l with
 |none=>rfl
 |some o=>
  rw[e l o q]at h
  cases h
theorem Same.seq{K:PySem.W.Frag}{H H':Hp}{a:Addr}{xs:List V}(e:Same H H')(h:SqL K H a xs):SqL K H' a xs:=by
 rcases h with(h |⟨o,h⟩)|h
 ·exact .inl (.inl (e _ _ h))
 ·exact .inl (.inr ⟨o,e _ _ h⟩)
 ·exact .inr h
theorem gg{P:Prop}(h:∀G:Prop,(P->G)->G):P:=h P id
theorem zev{prog:Program}{w:World}{A:Around}{R:Result->Shared->Prop}{s:Shared}{elt target iter:Expr}{ifs:List Expr}{scope:Scope}{pos:Pos}{it acc:Value}{env:Env}(I:Nat->Shared->Prop)
  (turn:∀n s,I n s->wpAny (model prog w) A (pyNext it) (λr s1=>match r with
   |none=>R (.ok .next) s1
   |some v=>wpAny (model prog w) A (letOwnedTupleGo target it v) (λ_ s1'=>wpAny (model prog w) A (assign target env v) (λ_ s2=>
     wpAny (model prog w) A (forIn ifs true λc r=>if r=true then do let ok <-isTrue c env (eval c env);pure (ForInStep.yield ok) else pure (ForInStep.yield r)) (λok s3=>
      if ok=true then wpAny (model prog w) A (eval elt env) (λx s4=>
       wpAny (model prog w) A (call (.builtin "list.append") [acc,x]) (λ_ s5=>∃m,m<n/\I m s5) (λ_ _=>False) s4) (λ_ _=>False) s3
      else ∃m,m<n/\I m s3) (λ_ _=>False) s2) (λ_ _=>False) s1') (λ_ _=>False) s1) (λ_ _=>False) s)
  (n:Nat) (h:I n s) :
  codeAny (model prog w) A (.compLoop (.ListComp elt [⟨target,iter,ifs,0⟩] scope pos) 0 it acc env) R s:=by
 refine codeAny_loop rfl I (λn s hI=>?_) n h;show wpAny _ A ((compTurn (.ListComp elt [⟨target,iter,ifs,0⟩] scope pos) 0 it acc env).onRaise (λx=>do noteFrame x env;theTreesLotGoes x)) _ _ s;refine wpAny_noted ?_;rw[compTurn_list];refine wpAny_bind (wpAny_standAt (wpAny_bind (wpAny_mono (turn n s hI) (λr s₁ h₁=>?_) λ_ _ h'=>h'.elim)))
 cases r with
 |none=>exact wpAny_pure h₁
 |some v=>
  refine wpAny_bind (wpAny_mono h₁ (λ_ s₁' h₁'=>?_) λ_ _ h'=>h'.elim);refine wpAny_bind (wpAny_mono h₁' (λ_ s₂ h₂=>wpAny_bind (wpAny_mono h₂ (λok s₃ h₃=>?_) λ_ _ h'=>h'.elim)) λ_ _ h'=>h'.elim)
  cases ok with
  |false=>exact wpAny_pure ⟨rfl,h₃⟩
  |true=>
   exact wpAny_bind (wpAny_bind (wpAny_mono h₃ (λx s₄ h₄=>wpAny_bind (wpAny_mono h₄ (λ_ s₅ h₅=>wpAny_pure (wpAny_pure ⟨rfl,h₅⟩)) λ_ _ h'=>h'.elim)) λ_ _ h'=>h'.elim))
inductive Capt(X:Cx)(scope:Scope)(cl:List (Str×Addr)):List Str->List Nat->Prop
 |nil:Capt X scope cl [] []
 |cons {x:Str}{j:Nat}{xs:List Str}{js:List Nat} (h1:X.N[j]?=some x) (h2:X.env.kindOf x=some .cell\/X.env.kindOf x=some .free) (h3:cl.lookup x=X.env.cells.lookup x)
  (h4:(relabel scope X.env).names.lookup x=some .cell\/(relabel scope X.env).names.lookup x=some .free) (t:Capt X scope cl xs js):Capt X scope cl (x::xs) (j::js)
theorem Capt.get{X:Cx}{scope:Scope}{cl:List (Str×Addr)}:∀{xs:List Str}{js:List Nat},Capt X scope cl xs js->xs.length=js.length/\∀(i:Nat) (x:Str) (j:Nat),xs[i]?=some x->js[i]?=some j->X.N[j]?=some x/\(X.env.kindOf x=some .cell\/X.env.kindOf x=some .free)/\cl.lookup x=X.env.cells.lookup x /\
  ((relabel scope X.env).names.lookup x=some .cell\/(relabel scope X.env).names.lookup x=some .free)
 |_,_,.nil=>⟨rfl,λi x j h=>by simp at h⟩
 |_,_,.cons h1 h2 h3 h4 t=>⟨by simp[t.get.1],λi x j hx hj=>by
  cases i with
  |zero=>simp at hx hj;subst hx hj;exact⟨h1,h2,h3,h4⟩
  |succ i=>exact t.get.2 i x j (by simpa using hx) (by simpa using hj)⟩
inductive SubC(X:Cx):List (Str×Addr)->Prop
 |nil:SubC X []
 |cons {x:Str}{c:Addr}{cl:List (Str×Addr)} (h:X.env.cells.lookup x=some c) (t:SubC X cl):SubC X ((x,c)::cl)
theorem SubC.of{X:Cx}:∀{cl:List (Str×Addr)},SubC X cl->∀x c,cl.lookup x=some c->X.env.cells.lookup x=some c
 |_,.nil,x,c,h=>by simp at h
 |_,.cons (x:=y) (c:=d) h0 t,x,c,h=>by
  rw[List.lookup_cons]at h
  cases e:x == y with
  |true=>
   rw[e]at h;have:x=y:=by simpa using e
   subst this;rw[h0];simpa using h
  |false=>rw[e]at h;exact t.of x c (by simpa using h)
def vh(X:Cx)(N':List Str)(scope:Scope)(cl:List (Str×Addr))(C:Addr)(fp:List Addr)(s2:Shared)(H2:Hp):Cx where
 prog:=X.prog
 w:=X.w
 K:=X.K
 mg:=X.mg
 base:=X.base
 A:=X.A
 N:=N'
 s₀:=s2
 H₀:=H2
 env:=compEnvC scope cl C X.env
 outer:=X.stack
 stack:=X.stack
 ex:=fp
 fn:=λ_=>false
 calm:=true
 pn:=[]
 xe:=λ_ _=>False
def xi(k:Nat)(js:List Nat)(σ:St):St:=List.replicate k none++js.map λj=>(σ[j]?).join
def PTs(X:Cx)(ifs:List Expr)(t:TT):Prop :=
 ∀(pins:List (Addr×Obj)) (s:Shared) (σ:St) (H:Hp) (Q:Bool->Hp->Prop),Inv X pins σ H s->t σ H Q ->
  wpAny (model X.prog X.w) X.A (forIn ifs true λc r=>if r=true then do let ok <-isTrue c X.env (eval c X.env);pure (ForInStep.yield ok) else pure (ForInStep.yield r)) (TP X pins σ Q) X.xe s
def zve:TT:=λ_ H Q=>Q true H
theorem zo9{X:Cx}:PTs X [] zve:=λ_ _ _ H _ I h=>wpAny_tests_nil ⟨H,I,h⟩
theorem zpa{X:Cx}{c:Expr}{t:TT}(hc:PT X c t):PTs X [c] t:=λpins s σ H Q I h=>wpAny_tests_one (hc pins s σ H Q I h)
def zew(J:It)(D:Addr)(g:TG)(tt:TT)(te:TE)(σ0:St)(H1:Hp)(Q:VK):Prop :=
 ∃W:Nat->Nat->St->Hp->Prop,(∃m,W 0 m σ0 (upd H1 D (.lst [])))/\∀i m σ H,W i m σ H ->
  (J.stop i H/\Q (.ref D) H)\/(J.go i H/\∀x H',J.yld i H x H'->g x σ H' λσ2 H2=>tt σ2 H2 λb H3=>
   if b=true then te σ2 H3 λy H4=>∃ys,H4 D=some (.lst ys)/\ys.length<sizeLine/\∃m',m' < m/\W (i+1) m' σ2 (upd H4 D (.lst (ys ++ [y])))
   else ∃m',m' < m/\W (i+1) m' σ2 H3)
def tLC(k:Nat)(js:List Nat)(wi:TI)(g:TG)(tt:TT)(te:TE):TE:=λσ H Q=>wi σ H λJ H1=>∀D,H1 D=none->zew J D g tt te (xi k js σ) H1 Q
section
variable {X:Cx}
theorem zvf{N':List Str}{scope:Scope}{cl:List (Str×Addr)}{fp:List Addr}{pins:List (Addr×Obj)}{σ:St}{H2:Hp}{s2:Shared}{C:Addr}(I:Inv X pins σ H2 s2)(hc:X.calm=true)(hkind:scope.kind=.function)(hC:s2.heap.objs.size<=C)
  (hsub:SubC X cl) (hhas:(relabel scope X.env).names.all (λp=>(p.2 != .cell && p.2 != .free) ||(cl.lookup p.1).isSome)=true)
  (hf:∀b∈fp,FpOk X pins H2 b) (ho:∀b∈fp,∃o,s2.heap.get? b=some o/\∀v,o.data ≠ .cell v):(vh X N' scope cl C fp s2 H2).Ok where
 mod:=I.ok.mod
 kind:=hkind
 glob:=I.ok.glob
 blt:=I.ok.blt
 above:=hC
 inj:=λx y c h1 h2=>I.ok.inj x y c (hsub.of x c h1) (hsub.of y c h2)
 has:=λx hx=>by
  have hx:(relabel scope X.env).names.lookup x=some .cell\/(relabel scope X.env).names.lookup x=some .free:=hx;have key:∀k,(relabel scope X.env).names.lookup x=some k->(k=.cell\/k=.free)->∃c,cl.lookup x=some c:=λk hk hkk=>by
   have hm:=PySem.mem_of_lookup hk;have:=List.all_eq_true.mp hhas _ hm;rcases hkk with rfl|rfl <;> exact Option.isSome_iff_exists.mp (by simpa using this)
  rcases hx with hx|hx
  ·exact key _ hx (.inl rfl)
  ·exact key _ hx (.inr rfl)
 cab:=λx c h=>by cases h
 hd:=λ_=>I.ok.hd hc
 frames:=I.ok.frames
 stk:=.inl rfl
 exf:=λb hb=>by
  obtain⟨o,e,_⟩:=ho b hb;obtain⟨f0,f1,f2,f3,f4,f5⟩:=hf b hb;exact⟨Nat.ne_of_lt (Nat.lt_of_lt_of_le (Heap.lt_size e) hC),λx c h=>f4 x c (hsub.of x c h)⟩
 bs:=I.bs
 bsz:=Nat.le_trans I.ok.bsz I.sz
 noex:=λb o e hb=>by
  obtain⟨f0,f1,f2,f3,f4,f5⟩:=hf b hb;rcases f3 with z|z
  ·exact I.ok.noex b o e z
  ·exact absurd (Nat.lt_of_lt_of_le (Heap.lt_size e) (Nat.le_trans I.ok.bsz z)) (Nat.lt_irrefl _)
 exfs:=λb hb z=>by
  obtain⟨f0,f1,f2,f3,f4,f5⟩:=hf b hb;exact(List.mem_cons.mp (I.stkSub b z)).elim f1 f2
 funs:=I.stack
 frf:=I.stkFree
theorem zmf{N' capt:List Str}{k:Nat}{js:List Nat}{scope:Scope}{cl:List (Str×Addr)}{fp:List Addr}{pins:List (Addr×Obj)}{σ:St}{H2:Hp}{s2:Shared}{D C:Addr}{h4:Heap}{t4:Nat}{m:Str->Option Value}(I:Inv X pins σ H2 s2)(ok:(vh X N' scope cl C fp s2 H2).Ok)
  (hD:s2.heap.objs.size<=D) (hC:s2.heap.objs.size<=C) (hDC:D≠C) (keep:∀b o,s2.heap.get? b=some o->h4.get? b=some o) (hns:h4.Ns C m)
  (hl:h4.get? D=some { cls:=.type "list",data:=.seq #[] 0 })
  (hsub:SubC X cl) (hcap:Capt X scope cl capt js) (hN:N'=N'.take k++capt) (hk:k<=N'.length) :
  Inv (vh X N' scope cl C fp s2 H2) [] (xi k js σ) (upd H2 D (.lst [])) { s2 with heap:=h4,toks:=t4 }:=by
 have below:∀b o,s2.heap.get? b=some o->b≠D/\b≠C:=λb o e=>⟨Nat.ne_of_lt (Nat.lt_of_lt_of_le (Heap.lt_size e) hD),Nat.ne_of_lt (Nat.lt_of_lt_of_le (Heap.lt_size e) hC)⟩
 have hlen:N'.length=k+capt.length:=by
  have:=congrArg List.length hN;rw[List.length_append,List.length_take]at this;omega
 refine⟨ok,rfl,I.bare,Un.laid keep hD (I.hok.fresh hD),⟨m,hns,λi x v h1 h2 h3=>?_⟩,λx c h=>?_,?_,λx c h=>?_,λp hp=>absurd (show p∈([]:List (Addr×Obj)) from hp) (by simp),?_,?_⟩
 ·have h1:N'[i]?=some x:=h1;unfold xi at h2
  by_cases hi:i<k
  ·rw[List.getElem?_append_left (by simpa using hi),List.getElem?_replicate]at h2;rw[if_pos hi]at h2
   cases h2
  ·rw[List.getElem?_append_right (by simpa using hi),List.length_replicate,List.getElem?_map]at h2
   have hx:capt[i-k]?=some x:=by
    rw[hN,List.getElem?_append_right (by rw[List.length_take];omega),List.length_take]at h1;rw[show min k N'.length=k by omega]at h1;exact h1
   cases ej:js[i-k]? with
   |none=>rw[ej]at h2;cases h2
   |some j=>
    rw[ej]at h2;have h2':(σ[j]?).join=some v:=Option.some.inj h2;obtain⟨q1,q2,q3,q4⟩:=hcap.get.2 _ _ _ hx ej;have hv:σ[j]?=some (some v):=by
     cases e:σ[j]? with
     |none=>rw[e]at h2';cases h2'
     |some o=>rw[e]at h2';cases o with
      |none=>cases h2'
      |some v'=>simpa using h2'
    obtain⟨m0,hn0,hl0⟩:=I.loc;obtain⟨u,r,l⟩:=hl0 j x v q1 hv (by rcases q2 with z|z;exact .inr (.inl z);exact .inr (.inr z));refine⟨u,r,?_⟩;rcases l with⟨z,_⟩ |⟨_,c,e,o,z1,z2⟩
    ·rcases q2 with q|q <;> · rw[q]at z;cases z
    ·exact .inr ⟨q4,c,q3.trans e,o,keep c o z1,z2⟩
 ·obtain⟨v,o,z1,z2⟩:=I.cell x c (hsub.of x c h);exact⟨v,o,keep c o z1,z2⟩
 ·show upd H2 D (.lst []) C=none;rw[zv (Ne.symm hDC)];exact I.hok.fresh hC
 ·obtain⟨v,o,z1,z2⟩:=I.cell x c (hsub.of x c h);show upd H2 D (.lst []) c=none;rw[zv (below c o z1).1];exact I.freeC x c (hsub.of x c h)
 ·exact I.hok.laid keep hD ⟨Nat.zero_le _,[],0,.nil,hl⟩
 ·show(xi k js σ).length=N'.length;unfold xi;rw[List.length_append,List.length_replicate,List.length_map,hlen,hcap.get.1]
structure zsp(X:Cx)(scope:Scope)(cl:List (Str×Addr))(N' capt:List Str)(k:Nat)(js:List Nat):Prop where
 clos:closureFor scope X.env=pure cl
 cell:∀y∈scope.names,y.2 ≠ .cell
 kind:scope.kind=.function
 names:∀y∈scope.names,y.2=.local->scope.names.lookup y.1=some .local
 sub:SubC X cl
 has:(relabel scope X.env).names.all (λp=>(p.2 != .cell && p.2 != .free) ||(cl.lookup p.1).isSome)=true
 cap:Capt X scope cl capt js
 hN:N'=N'.take k++capt
 hk:k<=N'.length
def LcEnd(X:Cx)(pins:List (Addr×Obj))(σ:St)(Q:VK)(acc:Value)(C:Addr)(r:Result)(s':Shared):Prop :=
 ∃(f:Flow) (D:Addr) (H':Hp) (m:Str->Option Value),r=.ok f/\acc=.ref D/\Inv X pins σ H' s'/\Q (.ref D) H'/\s'.heap.Ns C m/\H' C=none/\C≠X.env.locals/\X.s₀.heap.objs.size<=C/\(∀x c,X.env.cells.lookup x=some c->c≠C)/\∀p∈X.pn++pins,p.1≠C
theorem LcEnd.let_go{pins:List (Addr×Obj)}{σ':St}{H':Hp}{C:Addr}{s'':Shared}{h':Heap}(I:Inv X pins σ' H' s'')(hn:H' C=none)(h1:C≠X.env.locals)(h2:X.s₀.heap.objs.size<=C)(h3:∀x c,X.env.cells.lookup x=some c->c≠C)(h4:∀p∈X.pn++pins,p.1≠C)
  (hs:Heap.SameBut C s''.heap h'):Inv X pins σ' H' { s'' with heap:=h' } :=
 I.turned (t':=s''.toks) (λb o hb e=>(hs.2 b hb).trans e) hn h1 (.inr h2) h3 h4
theorem zmg{elt tg iter:Expr}{ifs:List Expr}{scope:Scope}{pos:Pos}{cl:List (Str×Addr)}{N' capt:List Str}{k:Nat}{js:List Nat}{g:TG}{tt:TT}{te:TE}{J:It}{fp:List Addr}{tn:Nat->Heap->Prop}{it:Addr}
  {pins:List (Addr×Obj)}{σ:St}{H2:Hp}{s2:Shared}{Q:VK}{E:Value->Shared->Prop} (hc:X.calm=true) (L:zsp X scope cl N' capt k js)
  (hg:∀C fp s2 H2,PG (vh X N' scope cl C fp s2 H2) tg g) (ht:∀C fp s2 H2,PTs (vh X N' scope cl C fp s2 H2) ifs tt) (he:∀C fp s2 H2,PE (vh X N' scope cl C fp s2 H2) elt te)
  (I2:Inv X pins σ H2 s2) (T:zkv X.prog X.w X.K tg J fp it tn) (st2:tn 0 s2.heap) (f2:∀b∈fp,FpOk X pins H2 b) (q:∀D,H2 D=none->zew J D g tt te (xi k js σ) H2 Q) :
  wpAny (model X.prog X.w) X.A (newList []) (λacc s3=>wpAny (model X.prog X.w) X.A (newFunctionEnv scope X.env.globals cl [] X.env.qual none .none (some X.env)) (λcenv s4=>
   codeAny (model X.prog X.w) X.A (.compStart (.ListComp elt [⟨tg,iter,ifs,0⟩] scope pos) 0 (.ref it) acc { cenv with scope:=relabel scope X.env }) (LcEnd X pins σ Q acc cenv.locals) s4) E s3) E s2:=by
 refine wpAny_newObj_type (wpAny_newFunctionEnv L.cell (by intro y hy;simp at hy) (λh₁ hns₁ hsb₁=>?_) L.kind);dsimp only at hns₁ hsb₁ ⊢;generalize hH2:s2.heap.push { cls:=.type "list",dict:=none,data:=.seq ([]:List Value).toArray }=G at hns₁ hsb₁ ⊢;have hC:G.objs.size=s2.heap.objs.size+1:=by rw[<-hH2,Heap.size_push]
 have hDC:s2.heap.objs.size≠G.objs.size:=by rw[hC];exact Nat.ne_of_lt (Nat.lt_succ_self _)
 have hCle:s2.heap.objs.size<=G.objs.size:=by rw[hC];exact Nat.le_succ _
 have below:∀b,b<s2.heap.objs.size->b≠G.objs.size:=λb hb=>by rw[hC];exact Nat.ne_of_lt (Nat.lt_succ_of_lt hb)
 have keep:∀b o,s2.heap.get? b=some o->h₁.get? b=some o:=λb o e=>hsb₁.extBut b o (below b (Heap.lt_size e)) (Heap.get?_push_of_some _ (hH2 ▸ Heap.get?_push_of_some _ e));have hl:h₁.get? s2.heap.objs.size=some { cls:=.type "list",data:=.seq #[] 0 }:=hsb₁.extBut _ _ hDC (Heap.get?_push_of_some _ (hH2 ▸ Heap.get?_push_size _ rfl));have ho2:=T.obj _ _ st2;have ok:(vh X N' scope cl G.objs.size fp s2 H2).Ok:=zvf I2 hc L.kind hCle L.sub L.has f2 ho2;generalize hD:s2.heap.objs.size=D at hl hDC ⊢;generalize hCC:G.objs.size=C at hns₁ hsb₁ hDC hC hCle below ok ⊢;have hDle:s2.heap.objs.size<=D:=by rw[hD];exact Nat.le_refl _
 have I4:Inv (vh X N' scope cl C fp s2 H2) [] (xi k js σ) (upd H2 D (.lst [])) { s2 with heap:=h₁,toks:=s2.toks+([]:List (Str×Value)).length } :=
  zmf I2 ok hDle hCle hDC keep hns₁ hl L.sub L.cap L.hN L.hk
 obtain⟨W,⟨m0,w0⟩,turn⟩:=q D (I2.hok.fresh hDle);have tn0:tn 0 h₁:=T.keep _ _ _ st2 λb _ o e=>keep b o e;have fr0:∀b∈fp,upd H2 D (.lst []) b=none:=λb hb=>by
  obtain⟨o,e,_⟩:=ho2 b hb;rw[zv (Nat.ne_of_lt (Nat.lt_of_lt_of_le (Heap.lt_size e) hDle))];exact(f2 b hb).1
 have stat:∀{H':Hp},(∀b∈fp,H' b=none)->∀b∈fp,FpOk (vh X N' scope cl C fp s2 H2) [] H' b:=λhn b hb=>by
  refine⟨hn b hb,(ok.exf b hb).1,ok.exfs b hb,.inl hb,(ok.exf b hb).2,λp hp=>absurd (show p∈([]:List (Addr×Obj)) from hp) (by simp)⟩
 have loop:∀s₃:Shared,s₃ = { s2 with heap:=h₁,toks:=s2.toks+([]:List (Str×Value)).length } ->
   codeAny (model X.prog X.w) X.A (.compLoop (.ListComp elt [⟨tg,iter,ifs,0⟩] scope pos) 0 (.ref it) (.ref D) (compEnvC scope cl C X.env)) (LcEnd X pins σ Q (.ref D) C) s₃:=by
  rintro s₃ rfl;refine zev (λn s'=>∃i σ' H',Inv (vh X N' scope cl C fp s2 H2) [] σ' H' s'/\tn i s'.heap/\(∀b∈fp,H' b=none)/\W i n σ' H') ?_ m0 ⟨0,_,_,I4,tn0,fr0,w0⟩;intro n s3 zz;refine gg λG zk=>?_;obtain⟨i,σ3,H3,I3,st3,fr3,w3⟩:=zz;refine zk ?_;clear zk;rcases turn i n σ3 H3 w3 with⟨stop,qn⟩ |⟨go,step⟩
  ·refine thn (T.done (vh X N' scope cl C fp s2 H2) rfl rfl rfl rfl i [] s3 σ3 H3 (λ_ _=>False) I3 (stat fr3) st3 stop) λr s4 ⟨hr,J4⟩=>?_;subst hr;obtain⟨m,hn,_⟩:=id J4.loc;have hs:X.s₀.heap.objs.size<=C:=Nat.le_trans I2.sz hCle;refine⟨.next,D,H3,m,rfl,rfl,I2.call' (ch:=fp) J4.os J4.base J4.hok J4.bare (λb hb=>?_),qn,hn,J4.free,λz=>?_,hs,λx c h z=>?_,λp hp z=>?_⟩
   ·obtain⟨f0,f1,f2',f3,f4,f5⟩:=f2 b hb;exact⟨f3,f1,f4,f5⟩
   ·have:=I2.lt;rw[<-z]at this;exact absurd (Nat.lt_of_lt_of_le this hCle) (Nat.lt_irrefl _)
   ·obtain⟨v,o,z1,_⟩:=I2.cell x c h;have:=Heap.lt_size z1;rw[z]at this;exact absurd (Nat.lt_of_lt_of_le this hCle) (Nat.lt_irrefl _)
   ·have:=Heap.lt_size (I2.pin p hp).1;rw[z]at this;exact absurd (Nat.lt_of_lt_of_le this hCle) (Nat.lt_irrefl _)
  ·refine thn (T.item (vh X N' scope cl C fp s2 H2) rfl rfl rfl rfl i [] s3 σ3 H3 (λ_ _=>False) I3 (stat fr3) st3 go) λr s4 ⟨u,hr,h4⟩=>?_;subst hr;refine thn h4 λ_ s5 zr4=>?_;obtain⟨x,H5,I5,r5,y5,st5,fr5⟩:=zr4;have I5':=I5.pinned (stat fr5) (T.obj _ _ st5);refine thn (hg C fp s2 H2 _ s5 σ3 H5 x u _ I5' r5 (step x H5 y5)) λ_ s6 zr6=>?_;obtain⟨σ6,H6,I6,q6⟩:=zr6;refine thn (ht C fp s2 H2 _ s6 σ6 H6 _ I6 q6) λok s7 ⟨H7,I7,q7⟩=>?_
   have again:∀{H8:Hp}{s8:Shared},Inv (vh X N' scope cl C fp s2 H2) ([]++zcb fp s5.heap) σ6 H8 s8->(∃m',m' < n/\W (i+1) m' σ6 H8)->∃m,m<n/\∃i σ' H',Inv (vh X N' scope cl C fp s2 H2) [] σ' H' s8/\tn i s8.heap/\(∀b∈fp,H' b=none)/\W i m σ' H':=λ{H8 s8} I8 n8=>by
    obtain⟨m',hm,w8⟩:=n8;refine⟨m',hm,i+1,σ6,H8,I8.unpinned,T.keep _ _ _ st5 λb hb o e=>(I8.pin (b,o) (List.mem_append_right _ (List.mem_append_right _ (qb hb e)))).1,λb hb=>?_,w8⟩;obtain⟨o,e,d⟩:=T.obj _ _ st5 b hb;exact(I8.pin (b,o) (List.mem_append_right _ (List.mem_append_right _ (qb hb e)))).2.1
   cases ok with
   |false=>
    rw[if_neg Bool.false_ne_true]at q7;exact again I7 q7
   |true=>
    rw[if_pos rfl]at q7;refine thn (he C fp s2 H2 _ s7 σ6 H7 _ I7 q7) λy s8 zr19=>?_;obtain⟨v8,H8,I8,r8,q8⟩:=zr19;obtain⟨ys,e8,z8,w8⟩:=q8;refine thn (zdx (X:=vh X N' scope cl C fp s2 H2) _ s8 σ6 H8 (.ref D) [v8] (.ref D) [y] (λv H=>∃m',m' < n/\W (i+1) m' σ6 H) I8 rfl (.cons r8 .nil) ⟨D,ys,v8,rfl,rfl,e8,z8,w8⟩) λ_ s9 zr21=>?_;obtain⟨v9,H9,I9,_,w9⟩:=zr21;exact again I9 w9
 exact codeAny_compStart_list (loop _ rfl) (T.self _ 0 _ _ _ tn0 (loop _ rfl))
theorem zvg{elt tg iter:Expr}{ifs:List Expr}{scope:Scope}{pos:Pos}{cl:List (Str×Addr)}{N' capt:List Str}{k:Nat}{js:List Nat}{wi:TI}{g:TG}{tt:TT}{te:TE}(hc:X.calm=true)(L:zsp X scope cl N' capt k js)
  (hi:PI X tg iter wi) (hg:∀C fp s2 H2,PG (vh X N' scope cl C fp s2 H2) tg g) (ht:∀C fp s2 H2,PTs (vh X N' scope cl C fp s2 H2) ifs tt) (he:∀C fp s2 H2,PE (vh X N' scope cl C fp s2 H2) elt te)
  (hs:∀x,foldedSetIterable iter X.env x=pure x:=by intro _;rfl):PE X (.ListComp elt [⟨tg,iter,ifs,0⟩] scope pos) (tLC k js wi g tt te):=by
 intro pins s σ H Q I h;rw[eval_ListComp];refine wpAny_comprehension_free (use:=none) rfl hs L.clos L.kind L.names (thn (hi pins s σ H _ I h) λv s1 h1=>thn h1 λitv s2 h2=>?_);obtain⟨it,fp,tn,J,H2,e,I2,T,st2,f2,q⟩:=h2;subst e;refine thn (zmg (E:=X.xe) hc L hg ht he I2 T st2 f2 q) λacc s3 h3=>thn h3 λcenv s4 h4=>codeAny_mono h4 λr s' hr=>?_;obtain⟨f,D,H',m,rfl,rfl,J',qq,hn,b1,b2,b3,b4,b5⟩:=hr;exact⟨m,hn,λh' hsb=>⟨.ref D,H',LcEnd.let_go J' b1 b2 b3 b4 b5 hsb,rfl,qq⟩⟩
end
section
variable {X:Cx}{pins:List (Addr×Obj)}{σ:St}{H:Hp}{s:Shared}
theorem Inv.turnedNew{ch:List Addr}{p:Addr}{o:HO}{h':Heap}{t':Nat}(I:Inv X pins σ H s)(hch:∀b∈ch,FpOk X pins H b)(hp:s.heap.objs.size<=p)
  (k:∀b u,b∉ch->s.heap.get? b=some u->h'.get? b=some u) (new:ObjOk X.prog X.w (upd H p o) h' p o):Inv X pins σ (upd H p o) { s with heap:=h',toks:=t' }:=by
 have hn:=I.hok.fresh hp;have nch:∀b u,H b=some u->b∉ch:=λb u e z=>by rw[(hch b z).1]at e;cases e
 refine I.step (g':=s.gens) (d':=s.drawn) (ch:=ch) (λb hb=>?_) (λb u _ _ hc e _=>k b u hc e) (λb u _ _ hc e _=>⟨u.slots,k b u hc e⟩) (λb u hc e n=>?_) (λb u hc e=>⟨u,k b u hc e⟩)
  (λb xs e=>by rw[zv (ym e hn)];exact e) (λb u xs e=>by rw[zv (ym e hn)];exact e) (λb ps e=>⟨#[],by rw[zv (ym e hn),e];simp⟩) (λm hm=>?_) (λb u e=>?_) I.bare
 ·obtain⟨f0,f1,f2,f3,f4,f5⟩:=hch b hb;exact⟨f3,f1,f4,f5⟩
 ·rw[zv (Nat.ne_of_lt (Nat.lt_of_lt_of_le (Heap.lt_size e) hp))];exact n
 ·obtain⟨o',es,ep,ho,r⟩:=hm;exact⟨o',es,ep,k _ o' (λz=>(hch _ z).2.1 rfl) ho,r⟩
 ·by_cases hb:b=p
  ·subst hb;rw[zx]at e
   cases e;exact new
  ·rw[zv hb]at e;refine(I.hok b u e).stay (λc v hc q=>k c v ?_ q) (λc q=>by rw[zv (ym q hn)];exact q) (λc xs q=>by rw[zv (ym q hn)];exact q) (λc _ _ q=>by rw[zv (ym q hn)];exact q);rcases hc with z|z
   ·rw[z];exact nch b u e
   ·exact nch c _ z
theorem Inv.turnedL{ch:List Addr}{h':Heap}{t':Nat}(I:Inv X pins σ H s)(hch:∀b∈ch,FpOk X pins H b)
  (k:∀b u,b∉ch->s.heap.get? b=some u->h'.get? b=some u):Inv X pins σ H { s with heap:=h',toks:=t' }:=by
 have nch:∀b u,H b=some u->b∉ch:=λb u e z=>by rw[(hch b z).1]at e;cases e
 refine I.step (g':=s.gens) (d':=s.drawn) (ch:=ch) (λb hb=>?_) (λb u _ _ hc e _=>k b u hc e) (λb u _ _ hc e _=>⟨u.slots,k b u hc e⟩) (λb u hc e n=>n) (λb u hc e=>⟨u,k b u hc e⟩)
  (λb xs e=>e) (λb u xs e=>e) (λb ps e=>⟨#[],by rw[e];simp⟩) (λm hm=>?_) (λb u e=>?_) I.bare
 ·obtain⟨f0,f1,f2,f3,f4,f5⟩:=hch b hb;exact⟨f3,f1,f4,f5⟩
 ·obtain⟨o',es,ep,ho,r⟩:=hm;exact⟨o',es,ep,k _ o' (λz=>(hch _ z).2.1 rfl) ho,r⟩
 ·refine(I.hok b u e).stay (λc v hc q=>k c v ?_ q) (λc q=>q) λc xs q=>q;rcases hc with z|z
  ·rw[z];exact nch b u e
  ·exact nch c _ z
end
section
variable {X:Cx}
theorem zk7{bs:List Bool}{its:List Value}(r:Vals (bs.map V.bl) its):(List.range its.toArray.size).all (λi=>bs.getD i true)=bs.all id:=by
 have hl:its.toArray.size=bs.length:=by have:=r.length;simp at this ⊢;omega
 rw[hl];clear hl r;apply Bool.eq_iff_iff.mpr;simp only[List.all_eq_true,List.mem_range,id];constructor
 ·intro h b hb;obtain⟨i,hi,e⟩:=List.getElem_of_mem hb;have:=h i hi;simp[List.getD,hi,e]at this;exact this
 ·intro h i hi;simp only[List.getD,List.getElem?_eq_getElem hi,Option.getD_some];exact h _ (List.getElem_mem hi)
theorem zk8{bs:List Bool}{its:List Value}(r:Vals (bs.map V.bl) its):(List.range its.toArray.size).any (λi=>bs.getD i true)=bs.any id:=by
 have hl:its.toArray.size=bs.length:=by have:=r.length;simp at this ⊢;omega
 rw[hl];clear hl r;apply Bool.eq_iff_iff.mpr;simp only[List.any_eq_true,List.mem_range,id];constructor
 ·rintro ⟨i,hi,h⟩;simp only[List.getD,List.getElem?_eq_getElem hi,Option.getD_some]at h;exact⟨_,List.getElem_mem hi,h⟩
 ·rintro ⟨b,hb,h⟩;obtain⟨i,hi,e⟩:=List.getElem_of_mem hb;exact⟨i,hi,by simp only[List.getD,List.getElem?_eq_getElem hi,Option.getD_some,e];exact h⟩
theorem zf9{bs:List Bool}{its:List Value}(r:Vals (bs.map V.bl) its)(i:Nat)(v:Value)(h:its.toArray[i]?=some v):v=.bool (bs.getD i true):=by
 have h':its[i]?=some v:=by simpa using h
 have hi:i<its.length:=(List.getElem?_eq_some_iff.mp h').1;have hb:i<bs.length:=by have:=r.length;simp at this;omega
 obtain⟨u,hu,ru⟩:=r.get (i:=i) (x:=.bl bs[i]) (by simp[hb]);rw[h']at hu
 cases hu;have ru:v=.bool bs[i]:=ru;rw[ru];simp[List.getD,hb]
theorem zdz{A:Around}{E:Value->Shared->Prop}{s:Shared}{l:Addr}{its:Array Value}{Q:Value->Shared->Prop}{prog:Program}{w:World}(hl:s.heap.IsList l its)
  (h:∀s2:Shared,s2 = { s with heap:=s.heap.push { cls:=.type "list_iterator",data:=.fields #[.ref l,.int 0 0] } } ->
   (s2.heap.IsListIter s.heap.objs.size l 0/\s2.heap.IsList l its)->l≠s.heap.objs.size->Q (.ref s.heap.objs.size) s2) :
  wpAny (model prog w) A (pyIter (.ref l)) Q E s:=by
 have hlt:l<s.heap.objs.size:=by obtain⟨_,e,_⟩:=hl;exact Heap.lt_size e
 exact wpAny_pyIter_list hl (h _ rfl ⟨⟨_,Heap.get?_push_size _ rfl,rfl,rfl⟩,hl.push _⟩ (Nat.ne_of_lt hlt))
theorem zmh(hc:X.calm=true):xy X (.builtin "all") (λxs H Q=>∃(p:Addr) (bs:List Bool),xs = [.ref p]/\SqL X.K H p (bs.map V.bl)/\Q (.bl (bs.all id)) H):=by
 intro pins s σ H xs us Q I rv h;obtain⟨p,bs,rfl,hq,q⟩:=h;obtain⟨u,rfl,r1⟩:=rv.one
 cases r1;obtain⟨its,rvs,pl,hz⟩:=I.list hq;refine call_all_walk (zdz pl.isList λs2 e st hne=>?_);subst e;refine⟨_,_,_,_,_,_,λi=>bs.getD i true,rfl,Walks.list (A:=X.A.in1) (I.ok.hd hc) _ p hne its.toArray,st,λi v s Q E hP hQ=>?_,λh' tk hk=>?_⟩
 ·rw[zf9 rvs i v hP];exact wpAny_truthy_bool hQ
 ·rw[zk7 rvs];refine⟨.bl (bs.all id),H,I.kept (λb o e=>hk b o (λz=>?_) (Heap.get?_push_of_some _ e)),rfl,q⟩;rw[List.mem_singleton.mp z]at e;exact Nat.lt_irrefl _ (Heap.lt_size e)
theorem zmi(hc:X.calm=true):xy X (.builtin "any") (λxs H Q=>∃(p:Addr) (bs:List Bool),xs = [.ref p]/\SqL X.K H p (bs.map V.bl)/\Q (.bl (bs.any id)) H):=by
 intro pins s σ H xs us Q I rv h;obtain⟨p,bs,rfl,hq,q⟩:=h;obtain⟨u,rfl,r1⟩:=rv.one
 cases r1;obtain⟨its,rvs,pl,hz⟩:=I.list hq;refine call_any_walk (zdz pl.isList λs2 e st hne=>?_);subst e;refine⟨_,_,_,_,_,_,λi=>bs.getD i true,rfl,Walks.list (A:=X.A.in1) (I.ok.hd hc) _ p hne its.toArray,st,λi v s Q E hP hQ=>?_,λh' tk hk=>?_⟩
 ·rw[zf9 rvs i v hP];exact wpAny_truthy_bool hQ
 ·rw[zk8 rvs];refine⟨.bl (bs.any id),H,I.kept (λb o e=>hk b o (λz=>?_) (Heap.get?_push_of_some _ e)),rfl,q⟩;rw[List.mem_singleton.mp z]at e;exact Nat.lt_irrefl _ (Heap.lt_size e)
def zvh(i j:Int):Prop:=0<j/\j<10000000000000000000000000000000000000000000000000000000000000
theorem zga:OpR X (binaryOp .FloorDiv) (rI zvh λi j=>.int (i / j)):=opI λi j _ _ _ _ _ hc q=>by
 have h0:j≠0:=by have:=hc.1;omega
 have e:i.fdiv j=i / j:=Int.fdiv_eq_ediv_of_nonneg i (by have:=hc.1;omega);refine floordiv_int h0 (by rw[e];exact q) (.inl (PyProof.noPylong_of_log2 ?_));have h1:j.natAbs<2 ^ 400:=Nat.lt_of_lt_of_le (show j.natAbs<10000000000000000000000000000000000000000000000000000000000000 by have h1:=hc.1;have h2:=hc.2;omega) (by decide +kernel);have h2:j.natAbs≠0:=by omega
 exact Nat.lt_of_lt_of_le ((Nat.log2_lt h2).mpr h1) (by decide)
end
def zaw(P:Program)(w:World)(K:PySem.W.Frag)(mg:Str->Option Value)(base:Heap)(k:Nat)(x:Str)(ps:List Str)(sp:Sp):Prop :=
 ∃f fd,FnOk P w K mg base CX0 k f fd ps sp/\Binds K fd ps []/\PySem.W.keepIn K (.ref f)=true/\mg x=some (.ref f)
theorem zcf{X:Cx}{k k':Nat}{x:Str}{ps:List Str}{sp:Sp}{e:Expr}{es:List Expr}{t:TA}{p pos:Pos}(C:zaw X.prog X.w X.K X.mg X.base k x ps sp)(hr:Room k' X.A)(hg:Gl X x)(ha:PA X (e::es) t)(hk:k<=k':=by decide)
  (hdb:(x ==("__debug__" : Str))=false:=by decide) (he:starEach (e::es) X.env=(false,eval e X.env)::starEach es X.env:=by rfl) (hpl:(backTo pos (starEach es X.env)).any (·.1)=false:=by rfl) :
  PE X (.Call (.Name x p) (e::es) [] pos) (zq5 sp [] E0 t):=by
 intro pins s σ H Q I h;obtain⟨f,fd,F,b,kp,m⟩:=C;exact zo2 F (hr.mono hk) hg m kp b .nil zvc ha hdb he hpl pins s σ H Q I h
def But(p:Addr)(H H':Hp):Prop:=∀b o,b≠p->H b=some o->H' b=some o
theorem But.refl(p:Addr)(H:Hp):But p H H:=λ_ _ _ h=>h
theorem But.trans{p:Addr}{H H1 H2:Hp}(a:But p H H1)(b:But p H1 H2):But p H H2:=λc o n h=>b c o n (a c o n h)
theorem But.of_same{p:Addr}{H H':Hp}(h:Same H H'):But p H H':=λb o _ q=>h b o q
theorem But.write{p:Addr}{H:Hp}{o:HO}:But p H (upd H p o):=λb u n q=>by rw[zv n];exact q
theorem Same.but{p:Addr}{H H1 H2:Hp}(a:Same H H1)(hp:H p=none)(b:But p H1 H2):Same H H2:=λc o h=>b c o (ym h hp) (a c o h)
theorem yc{H:Hp}{p:Addr}(h:H p=none)(o:HO):Same H (upd H p o):=λb u q=>by rw[zv (ym q h)];exact q
def Pen(H:Hp)(p:Addr):Prop:=∃a b c:Int,H p=some (.lst [.int a,.int b,.int c])
theorem zq6{n:Nat}(h:n<=10000):n<sizeLine:=Nat.lt_of_le_of_lt h (by decide)
theorem zsq{n:Nat}(h:n<=10000):n<=sizeLine:=Nat.le_of_lt (zq6 h)
theorem zsr{α:Type}{xs:List α}{k:Int}(h0:0<=k)(h1:k<xs.length):∃v,atI xs k=some v/\xs[k.toNat]?=some v:=by
 have hk:k.toNat<xs.length:=by omega
 have ek:k=((k.toNat:Nat):Int):=by omega
 have q:atI xs ((k.toNat:Nat):Int)=some xs[k.toNat]:=k8 (List.getElem?_eq_getElem hk);rw[<-ek]at q;exact⟨_,q,List.getElem?_eq_getElem hk⟩
theorem Pen.ne{H:Hp}{p l:Addr}(h:Pen H p)(hl:H l=none):l≠p:=λe=>by
 obtain⟨a,b,c,q⟩:=h;rw[e]at hl;rw[hl]at q
 cases q
def NextLC(n i:Nat)(D:Addr)(Wv:Nat->St->Hp->Prop)(σ2:St)(y:V)(H4:Hp):Prop :=
 ∃ys,H4 D=some (.lst ys)/\ys.length<sizeLine/\∃m',m' < n-i/\(m'=n-(i+1)/\i+1<=n/\Wv (i+1) σ2 (upd H4 D (.lst (ys ++ [y]))))
def SkipLC(n i:Nat)(Wv:Nat->St->Hp->Prop)(σ2:St)(H3:Hp):Prop:=∃m',m' < n-i/\(m'=n-(i+1)/\i+1<=n/\Wv (i+1) σ2 H3)
theorem NextLC.mk{n i:Nat}{D:Addr}{Wv:Nat->St->Hp->Prop}{σ2:St}{y:V}{H4:Hp}(hi:i<n){ys:List V}(e:H4 D=some (.lst ys))(z:ys.length<=10000)(w:Wv (i+1) σ2 (upd H4 D (.lst (ys ++ [y])))):NextLC n i D Wv σ2 y H4 :=
 ⟨ys,e,zq6 z,n-(i+1),by omega,rfl,hi,w⟩
theorem SkipLC.mk{n i:Nat}{Wv:Nat->St->Hp->Prop}{σ2:St}{H3:Hp}(hi:i<n)(w:Wv (i+1) σ2 H3):SkipLC n i Wv σ2 H3:=⟨n-(i+1),by omega,rfl,hi,w⟩
section
variable {prog:Program}{w:World}{A:Around}{E:Value->Shared->Prop}{s:Shared}
theorem zhy{it t:Addr}{i:Nat}{xs:Array Value}{x:Value}{Q:Value->Shared->Prop}(hi:s.heap.IsTupleIter it t i)(ht:s.heap.IsTuple t xs)(hx:xs[i]?=some x)
  (q:∀h',h'.IsTupleIter it t (i+1)->Heap.SameBut it s.heap h'->Q x { s with heap:=h' }):wpAny (model prog w) A (Builtin.SmallTypes.nextOf (.ref it)) Q E s:=by
 obtain⟨oi,e1,c1,d1⟩:=id hi;obtain⟨ot,e2,c2,n2,d2⟩:=id ht;unfold Builtin.SmallTypes.nextOf;refine wpAny_bind (wpAny_callSpecial?_slot (name:=Str.ofString "__next__") hi.typeIs F.slot_tuple_iterator_next (wpAny_call_entry F.slot_tuple_iterator_next hi.typeIs F.entry_tuple_iterator_next (show wpAny _ _ (field (.ref it) 0 >>= _) _ _ s from wpAny_bind (wpAny_field e1 d1 (x:=.ref t) rfl ?_)) (F.args_tuple_iterator_next_1 _)));show wpAny _ _ (if (Value.ref t == Value.none)=true then _ else _) _ _ s;rw[if_neg (λz:(Value.ref t == Value.none)=true=>Bool.false_ne_true z)];refine(show wpAny _ _ (field (.ref it) 1 >>= _) _ _ s from wpAny_bind (wpAny_field e1 d1 (x:=.int i 0) rfl (show wpAny _ _ (seqItems? (.ref t) >>= _) _ _ s from wpAny_bind (wpAny_seqItems e2 d2 ?_))));simp only[hx,Int.toNat_natCast];refine wpAny_bind (wpAny_setField e1 d1 (by simp) (wpAny_pure ⟨x,rfl,wpAny_pure (q _ ⟨_,Heap.get?_update_self _ e1 (Obj.isFreed_of_fields (Obj.data_mapFields d1 _)),(Obj.cls_mapFields ..).trans c1,?_⟩ (Heap.SameBut.update ..))⟩));rw[Obj.data_mapFields d1];simp[rawInt]
theorem zk9{it t:Addr}{i:Nat}{xs:Array Value}{Q:Value->Shared->Prop}(hh:A.handled=none)(hi:s.heap.IsTupleIter it t i)(ht:s.heap.IsTuple t xs)(hx:xs[i]?=none)
  (q:∀h' e,Heap.ExtBut it s.heap h'->(∃o,h'.get? e=some o/\o.cls=.type "StopIteration")->E (.ref e) { s with heap:=h' }):wpAny (model prog w) A (Builtin.SmallTypes.nextOf (.ref it)) Q E s:=by
 obtain⟨oi,e1,c1,d1⟩:=id hi;obtain⟨ot,e2,c2,n2,d2⟩:=id ht;unfold Builtin.SmallTypes.nextOf;refine wpAny_bind (wpAny_callSpecial?_slot (name:=Str.ofString "__next__") hi.typeIs F.slot_tuple_iterator_next (wpAny_call_entry F.slot_tuple_iterator_next hi.typeIs F.entry_tuple_iterator_next (show wpAny _ _ (field (.ref it) 0 >>= _) _ _ s from wpAny_bind (wpAny_field e1 d1 (x:=.ref t) rfl ?_)) (F.args_tuple_iterator_next_1 _)));show wpAny _ _ (if (Value.ref t == Value.none)=true then _ else _) _ _ s;rw[if_neg (λz:(Value.ref t == Value.none)=true=>Bool.false_ne_true z)];refine(show wpAny _ _ (field (.ref it) 1 >>= _) _ _ s from wpAny_bind (wpAny_field e1 d1 (x:=.int i 0) rfl (show wpAny _ _ (seqItems? (.ref t) >>= _) _ _ s from wpAny_bind (wpAny_seqItems e2 d2 ?_))));simp only[hx,Int.toNat_natCast];refine wpAny_bind (wpAny_rule (wpAny_bind (wpAny_setField e1 d1 (by simp) (show wpAny _ _ (newExc (.type "StopIteration") [] >>= _) _ _ _ from wpAny_bind ?_))));simp only[newTuple,newExc];refine wpAny_bind (wpAny_newObj_type (wpAny_bind (m:=firstArgMember _ _) (wpAny_of_eq (a:=Value.none) (by first|rfl |(simp only[firstArgMember];rfl)) (wpAny_newObj_type ?_ (by size_fits)))) (by size_fits));simp only[raiseNew];refine wpAny_bind (wpAny_handled ?_)
 first |(rw[hh]) |(rw[show A.in1.handled=none from hh])
 exact wpAny_bind (wpAny_pure (wpAny_throw (q _ _ (((Heap.SameBut.update ..).extBut.push _).push _) ⟨_,Heap.get?_push_size _ rfl,rfl⟩)))
end
def zIt(b:Bool)(h:Heap)(it l:Addr)(i:Nat):Prop:=if b=true then h.IsTupleIter it l i else h.IsListIter it l i
def zSq(b:Bool)(h:Heap)(l:Addr)(xs:Array Value):Prop:=if b=true then h.IsTuple l xs else h.IsList l xs
def zOb(b:Bool)(l:Addr):Obj:={ cls:=.type (if b=true then "tuple_iterator" else "list_iterator"),data:=.fields #[.ref l,.int 0 0] }
theorem zIt.at{b:Bool}{h h':Heap}{it l:Addr}{i:Nat}(x:zIt b h it l i)(e:∀o,h.get? it=some o->h'.get? it=some o):zIt b h' it l i:=by
 cases b
 ·exact Heap.IsListIter.at (show h.IsListIter it l i from x) e
 ·exact Heap.IsTupleIter.at (show h.IsTupleIter it l i from x) e
theorem zIt.but{b:Bool}{h h':Heap}{it l c:Addr}{i:Nat}(x:zIt b h it l i)(e:Heap.ExtBut c h h')(n:it≠c):zIt b h' it l i:=x.at λo q=>e it o n q
theorem zSq.but{b:Bool}{h h':Heap}{l c:Addr}{xs:Array Value}(x:zSq b h l xs)(e:Heap.ExtBut c h h')(n:l≠c):zSq b h' l xs:=by
 cases b
 ·exact Heap.IsList.extBut (show h.IsList l xs from x) e n
 ·exact Heap.IsTuple.extBut (show h.IsTuple l xs from x) e n
theorem zSq.push{b:Bool}{h:Heap}{l:Addr}{xs:Array Value}(x:zSq b h l xs)(o:Obj):zSq b (h.push o) l xs:=by
 cases b
 ·exact Heap.IsList.push (show h.IsList l xs from x) o
 ·exact Heap.IsTuple.push (show h.IsTuple l xs from x) o
theorem zSq.lt{b:Bool}{h:Heap}{l:Addr}{xs:Array Value}(x:zSq b h l xs):l<h.objs.size:=by
 cases b
 ·obtain⟨o,e,_⟩:=(show h.IsList l xs from x)
  exact Heap.lt_size e
 ·obtain⟨o,e,_⟩:=(show h.IsTuple l xs from x)
  exact Heap.lt_size e
theorem zIt.own{b:Bool}{h:Heap}{it l:Addr}{i:Nat}(x:zIt b h it l i):∃o,h.get? it=some o/\∀v,o.data ≠ .cell v:=by
 cases b
 ·obtain⟨o,e,c,d⟩:=(show h.IsListIter it l i from x)
  exact⟨o,e,λv q=>by rw[d]at q;cases q⟩
 ·obtain⟨o,e,c,d⟩:=(show h.IsTupleIter it l i from x)
  exact⟨o,e,λv q=>by rw[d]at q;cases q⟩
section
variable {prog:Program}{w:World}{A:Around}{E:Value->Shared->Prop}{s:Shared}
theorem jw{b:Bool}{it l:Addr}{i:Nat}{xs:Array Value}{x:Value}{Q:Value->Shared->Prop}(hi:zIt b s.heap it l i)(hl:zSq b s.heap l xs)(hx:xs[i]?=some x)
  (q:∀h',zIt b h' it l (i+1)->Heap.SameBut it s.heap h'->Q x { s with heap:=h' }):wpAny (model prog w) A (Builtin.SmallTypes.nextOf (.ref it)) Q E s:=by
 cases b
 ·exact wpAny_nextOf_list_item hi hl hx q
 ·exact zhy hi hl hx q
theorem zd0{b:Bool}{it l:Addr}{i:Nat}{xs:Array Value}{Q:Value->Shared->Prop}(hh:A.handled=none)(hi:zIt b s.heap it l i)(hl:zSq b s.heap l xs)(hx:xs[i]?=none)
  (q:∀h' e,Heap.ExtBut it s.heap h'->(∃o,h'.get? e=some o/\o.cls=.type "StopIteration")->E (.ref e) { s with heap:=h' }):wpAny (model prog w) A (Builtin.SmallTypes.nextOf (.ref it)) Q E s:=by
 cases b
 ·exact wpAny_nextOf_list_end hh hi hl hx q
 ·exact zk9 hh hi hl hx q
theorem zq8{b:Bool}{l:Addr}{xs:Array Value}(hl:zSq b s.heap l xs){Q:Value->Shared->Prop}(q:Q (.ref s.heap.objs.size) { s with heap:=s.heap.push (zOb b l) }):wpAny (model prog w) A (pyIter (.ref l)) Q E s:=by
 cases b
 ·exact wpAny_pyIter_list hl q
 ·exact wpAny_pyIter_tuple hl q
theorem zla{b1 b2:Bool}{z TI TO i1 i2 l1 l2:Addr}{k1 k2:Nat}{xs ys:Array Value}{x y a b:Value}{Q:Value->Shared->Prop}(D:ZipApart z TI TO i1 i2 l1 l2)(hz:IsZip s.heap z TI TO .none)(hI:IsPair s.heap TI (.ref i1) (.ref i2))(hO:IsPair s.heap TO a b)
  (h1:zIt b1 s.heap i1 l1 k1) (h2:zIt b2 s.heap i2 l2 k2) (q1:zSq b1 s.heap l1 xs) (q2:zSq b2 s.heap l2 ys) (hx:xs[k1]?=some x) (hy:ys[k2]?=some y)
  (q:∀h',IsZip h' z TI TO (rawInt s.heap.objs.size)->IsPair h' TO x y->zIt b1 h' i1 l1 (k1+1)->zIt b2 h' i2 l2 (k2+1)->IsPair h' s.heap.objs.size x y->h'.objs.size=s.heap.objs.size+1 ->
   (∀c o,c≠z->c≠TO->c≠i1->c≠i2->s.heap.get? c=some o->h'.get? c=some o)->Q (.ref s.heap.objs.size) { s with heap:=h' }) :
  wpAny (model prog w) A (Builtin.«zip.__next__» ⟨[.ref z],[]⟩) (λfin s'=>∃v,fin=.done (.ret v)/\Q v s') E s:=by
 refine(show wpAny _ _ (field (.ref z) 2 >>= _) _ _ _ from wpAny_bind (wpAny_field hz rfl (x:=.bool false) rfl (show wpAny _ _ (field (.ref z) 3 >>= _) _ _ _ from wpAny_bind (wpAny_field hz rfl (x:=.ref TI) rfl (wpAny_bind (wpAny_seqItems hI rfl (show wpAny _ _ (Builtin.SmallTypes.ownedTupleIsFree (.ref z) >>= _) _ _ _ from wpAny_bind ?_)))))));unfold Builtin.SmallTypes.ownedTupleIsFree;refine wpAny_bind (wpAny_field hz rfl (x:=.none) rfl (wpAny_pure ?_));simp only[if_true];refine wpAny_bind (wpAny_rule (wpAny_bind (wpAny_field hz rfl (x:=.ref TO) rfl (wpAny_bind (wpAny_setField_rec hz (by simp) λg1 z1 s1=>wpAny_bind ?_)))))
 replace z1:IsZip g1 z TI TO .ellipsis:=z1
 simp only[List.zipIdx_nil,List.zipIdx_cons,List.forIn_nil,List.forIn_cons];refine wpAny_bind (wpAny_bind (wpAny_onRaise (show wpAny _ _ (Builtin.SmallTypes.nextOf (.ref i1) >>= _) _ _ _ from wpAny_bind (jw (h1.but s1.extBut D.i1z) (q1.but s1.extBut D.l1z) hx λg2 t2 s2=>wpAny_pure ?_))));have O2:IsPair g2 TO a b:=s2.extBut _ _ D.TOi1 (s1.extBut _ _ D.TOz hO);refine wpAny_bind (wpAny_seqItems O2 rfl (wpAny_bind (wpAny_updateSeq_pair O2 λg3 O3 s3=>wpAny_bind (wpAny_letGo (wpAny_pure ?_)))))
 replace O3:IsPair g3 TO x b:=O3
 refine wpAny_bind (wpAny_bind (wpAny_onRaise (show wpAny _ _ (Builtin.SmallTypes.nextOf (.ref i2) >>= _) _ _ _ from wpAny_bind (jw (((h2.but s1.extBut D.i2z).but s2.extBut D.i12.symm).but s3.extBut D.TOi2.symm) (((q2.but s1.extBut D.l2z).but s2.extBut D.l2i1).but s3.extBut D.l2TO) hy λg4 t4 s4=>wpAny_pure ?_))));have O4:IsPair g4 TO x b:=s4.extBut _ _ D.TOi2 O3;refine wpAny_bind (wpAny_seqItems O4 rfl (wpAny_bind (wpAny_updateSeq_pair O4 λg5 O5 s5=>wpAny_bind (wpAny_letGo (wpAny_pure (wpAny_pure ?_))))))
 replace O5:IsPair g5 TO x y:=O5
 refine wpAny_bind (wpAny_seqItems O5 rfl (wpAny_bind (wpAny_newTuple ?_)));have sz:g5.objs.size=s.heap.objs.size:=by rw[s5.1,s4.1,s3.1,s2.1,s1.1]
 have z5:IsZip g5 z TI TO .ellipsis:=s5.extBut _ _ D.TOz.symm (s4.extBut _ _ D.i2z.symm (s3.extBut _ _ D.TOz.symm (s2.extBut _ _ D.i1z.symm z1)));have k5:∀c o,c≠z->c≠TO->c≠i1->c≠i2->s.heap.get? c=some o->g5.get? c=some o:=λc o n1 n2 n3 n4 e=>s5.extBut _ _ n2 (s4.extBut _ _ n4 (s3.extBut _ _ n2 (s2.extBut _ _ n3 (s1.extBut _ _ n1 e))));have t5:zIt b1 g5 i1 l1 (k1+1):=((t2.but s3.extBut D.TOi1.symm).but s4.extBut D.i12).but s5.extBut D.TOi1.symm;have u5:zIt b2 g5 i2 l2 (k2+1):=t4.but s5.extBut D.TOi2.symm;have lz:z<g5.objs.size:=Heap.lt_size z5;refine(show wpAny _ _ (Builtin.SmallTypes.ownedTupleHandOut (.ref z) (.ref g5.objs.size) >>= _) _ _ _ from wpAny_bind ?_);unfold Builtin.SmallTypes.ownedTupleHandOut;have z6:IsZip (g5.push { cls:=.type "tuple",data:=.seq #[x,y] }) z TI TO .ellipsis:=Heap.get?_push_of_some _ z5;refine wpAny_bind (wpAny_setField_rec z6 (by simp) λg7 z7 s7=>?_)
 replace z7:IsZip g7 z TI TO (rawInt g5.objs.size):=z7
 refine wpAny_setField_rec z7 (by simp) λg8 z8 s8=>?_
 replace z8:IsZip g8 z TI TO (rawInt g5.objs.size):=z8
 have up:∀c o,c≠z->g5.get? c=some o->g8.get? c=some o:=λc o n e=>s8.extBut _ _ n (s7.extBut _ _ n (Heap.get?_push_of_some _ e));have p8:IsPair g8 g5.objs.size x y:=s8.extBut _ _ (Nat.ne_of_gt lz) (s7.extBut _ _ (Nat.ne_of_gt lz) (Heap.get?_push_size _ rfl));have n8:g8.objs.size=g5.objs.size+1:=by rw[s8.1,s7.1,Heap.size_push]
 rw[sz]at z8 p8 n8;refine wpAny_pure ⟨_,rfl,(show Q (.ref g5.objs.size) _ from ?_)⟩;rw[sz];exact q g8 z8 (up _ _ D.TOz O5) (t5.at λo e=>up _ o D.i1z e) (u5.at λo e=>up _ o D.i2z e) p8 n8 λc o n1 n2 n3 n4 e=>up c o n1 (k5 c o n1 n2 n3 n4 e)
theorem zmj{b1 b2:Bool}{z TI TO i1 i2 l1 l2:Addr}{k1 k2:Nat}{xs ys:Array Value}{a b:Value}{Q:Fin->Shared->Prop}(hh:A.handled=none)(D:ZipApart z TI TO i1 i2 l1 l2)(hz:IsZip s.heap z TI TO .none)(hI:IsPair s.heap TI (.ref i1) (.ref i2))(hO:IsPair s.heap TO a b)
  (h1:zIt b1 s.heap i1 l1 k1) (h2:zIt b2 s.heap i2 l2 k2) (q1:zSq b1 s.heap l1 xs) (q2:zSq b2 s.heap l2 ys) (he:xs[k1]?=none\/ys[k2]?=none)
  (q:∀h' e,(∀c o,c≠z->c≠TO->c≠i1->c≠i2->s.heap.get? c=some o->h'.get? c=some o)->(∃o,h'.get? e=some o/\o.cls=.type "StopIteration")->E (.ref e) { s with heap:=h' }) :
  wpAny (model prog w) A (Builtin.«zip.__next__» ⟨[.ref z],[]⟩) Q E s:=by
 refine(show wpAny _ _ (field (.ref z) 2 >>= _) _ _ _ from wpAny_bind (wpAny_field hz rfl (x:=.bool false) rfl (show wpAny _ _ (field (.ref z) 3 >>= _) _ _ _ from wpAny_bind (wpAny_field hz rfl (x:=.ref TI) rfl (wpAny_bind (wpAny_seqItems hI rfl (show wpAny _ _ (Builtin.SmallTypes.ownedTupleIsFree (.ref z) >>= _) _ _ _ from wpAny_bind ?_)))))));unfold Builtin.SmallTypes.ownedTupleIsFree;refine wpAny_bind (wpAny_field hz rfl (x:=.none) rfl (wpAny_pure ?_));simp only[if_true];refine wpAny_bind (wpAny_rule (wpAny_bind (wpAny_field hz rfl (x:=.ref TO) rfl (wpAny_bind (wpAny_setField_rec hz (by simp) λg1 z1 s1=>wpAny_bind ?_)))))
 replace z1:IsZip g1 z TI TO .ellipsis:=z1
 simp only[List.zipIdx_nil,List.zipIdx_cons,List.forIn_nil,List.forIn_cons]
 cases hx:xs[k1]? with
 |none=>
  refine wpAny_bind (wpAny_bind (wpAny_onRaise (show wpAny _ _ (Builtin.SmallTypes.nextOf (.ref i1) >>= _) _ _ _ from wpAny_bind (zd0 hh (h1.but s1.extBut D.i1z) (q1.but s1.extBut D.l1z) hx λg2 e s2 ⟨oe,ee,ce⟩=>?_))));have z2:IsZip g2 z TI TO .ellipsis:=s2 _ _ D.i1z.symm z1;have nez:e≠z:=λt=>by subst t;rw[z2]at ee;cases ee;simp at ce
  exact wpAny_setField_rec z2 (by simp) λg3 _ s3=>q g3 e (λc o n1 _ n3 _ t=>s3.extBut _ _ n1 (s2 _ _ n3 (s1.extBut _ _ n1 t))) ⟨oe,s3.extBut _ _ nez ee,ce⟩
 |some x=>
  have hy:ys[k2]?=none:=he.resolve_left (by rw[hx];exact λt=>nomatch t);refine wpAny_bind (wpAny_bind (wpAny_onRaise (show wpAny _ _ (Builtin.SmallTypes.nextOf (.ref i1) >>= _) _ _ _ from wpAny_bind (jw (h1.but s1.extBut D.i1z) (q1.but s1.extBut D.l1z) hx λg2 t2 s2=>wpAny_pure ?_))));have O2:IsPair g2 TO a b:=s2.extBut _ _ D.TOi1 (s1.extBut _ _ D.TOz hO);refine wpAny_bind (wpAny_seqItems O2 rfl (wpAny_bind (wpAny_updateSeq_pair O2 λg3 O3 s3=>wpAny_bind (wpAny_letGo (wpAny_pure ?_)))));refine wpAny_bind (wpAny_bind (wpAny_onRaise (show wpAny _ _ (Builtin.SmallTypes.nextOf (.ref i2) >>= _) _ _ _ from wpAny_bind (zd0 hh (((h2.but s1.extBut D.i2z).but s2.extBut D.i12.symm).but s3.extBut D.TOi2.symm) (((q2.but s1.extBut D.l2z).but s2.extBut D.l2i1).but s3.extBut D.l2TO) hy λg4 e s4 ⟨oe,ee,ce⟩=>?_))));have z4:IsZip g4 z TI TO .ellipsis:=s4 _ _ D.i2z.symm (s3.extBut _ _ D.TOz.symm (s2.extBut _ _ D.i1z.symm z1));have nez:e≠z:=λt=>by subst t;rw[z4]at ee;cases ee;simp at ce
  exact wpAny_setField_rec z4 (by simp) λg5 _ s5=>q g5 e (λc o n1 n2 n3 n4 t=>s5.extBut _ _ n1 (s4 _ _ n4 (s3.extBut _ _ n2 (s2.extBut _ _ n3 (s1.extBut _ _ n1 t))))) ⟨oe,s5.extBut _ _ nez ee,ce⟩
theorem zcg{b1 b2:Bool}{z TI TO i1 i2 l1 l2:Addr}{k1 k2:Nat}{xs ys:Array Value}{x y a b:Value}{Q:Option Value->Shared->Prop}(D:ZipApart z TI TO i1 i2 l1 l2)(hz:IsZip s.heap z TI TO .none)(hI:IsPair s.heap TI (.ref i1) (.ref i2))(hO:IsPair s.heap TO a b)
  (h1:zIt b1 s.heap i1 l1 k1) (h2:zIt b2 s.heap i2 l2 k2) (q1:zSq b1 s.heap l1 xs) (q2:zSq b2 s.heap l2 ys) (hx:xs[k1]?=some x) (hy:ys[k2]?=some y)
  (q:∀h',IsZip h' z TI TO (rawInt s.heap.objs.size)->IsPair h' TO x y->zIt b1 h' i1 l1 (k1+1)->zIt b2 h' i2 l2 (k2+1)->IsPair h' s.heap.objs.size x y->h'.objs.size=s.heap.objs.size+1 ->
   (∀c o,c≠z->c≠TO->c≠i1->c≠i2->s.heap.get? c=some o->h'.get? c=some o)->Q (some (.ref s.heap.objs.size)) { s with heap:=h' }):wpAny (model prog w) A (pyNext (.ref z)) Q E s:=by
 have hT:s.TypeIs (.ref z) "zip" :=⟨_,hz,rfl⟩
 unfold pyNext;exact wpAny_bind (wpAny_attempt (wpAny_callSpecial?_slot (name:=Str.ofString "__next__") hT F.slot_zip_next (wpAny_call_entry F.slot_zip_next hT F.entry_zip_next (zla D hz hI hO h1 h2 q1 q2 hx hy λh' a1 a2 a3 a4 a5 a6 a7=>wpAny_pure (q h' a1 a2 a3 a4 a5 a6 a7)) (F.args_zip_next_1 _))))
theorem zdj{b1 b2:Bool}{z TI TO i1 i2 l1 l2:Addr}{k1 k2:Nat}{xs ys:Array Value}{a b:Value}{Q:Option Value->Shared->Prop}(hh:A.handled=none)(D:ZipApart z TI TO i1 i2 l1 l2)(hz:IsZip s.heap z TI TO .none)(hI:IsPair s.heap TI (.ref i1) (.ref i2))(hO:IsPair s.heap TO a b)
  (h1:zIt b1 s.heap i1 l1 k1) (h2:zIt b2 s.heap i2 l2 k2) (q1:zSq b1 s.heap l1 xs) (q2:zSq b2 s.heap l2 ys) (he:xs[k1]?=none\/ys[k2]?=none)
  (q:∀h',(∀c o,c≠z->c≠TO->c≠i1->c≠i2->s.heap.get? c=some o->h'.get? c=some o)->Q none { s with heap:=h' }):wpAny (model prog w) A (pyNext (.ref z)) Q E s:=by
 have hT:s.TypeIs (.ref z) "zip" :=⟨_,hz,rfl⟩
 unfold pyNext;exact wpAny_bind (wpAny_attempt (wpAny_callSpecial?_slot (name:=Str.ofString "__next__") hT F.slot_zip_next (wpAny_call_entry F.slot_zip_next hT F.entry_zip_next (zmj hh D hz hI hO h1 h2 q1 q2 he λh' e k ⟨o,ho,hc⟩=>wpAny_bind (wpAny_isInstance (T := "StopIteration") (b:=true) ⟨o,ho,hc⟩ isSubtype_stop (wpAny_pure (q _ k)))) (F.args_zip_next_1 _))))
end
abbrev zG1(b1:Bool)(h:Heap)(l1:Addr):Heap:=h.push (zOb b1 l1)
abbrev zG2(b1 b2:Bool)(h:Heap)(l1 l2:Addr):Heap:=(zG1 b1 h l1).push (zOb b2 l2)
abbrev zG3(b1 b2:Bool)(h:Heap)(l1 l2:Addr):Heap:=(zG2 b1 b2 h l1 l2).push { cls:=.type "tuple",data:=.seq #[.ref h.objs.size,.ref (zG1 b1 h l1).objs.size] }
abbrev zG4(b1 b2:Bool)(h:Heap)(l1 l2:Addr):Heap:=(zG3 b1 b2 h l1 l2).push { cls:=.type "tuple",data:=.seq #[.none,.none] }
abbrev zG5(b1 b2:Bool)(h:Heap)(l1 l2:Addr):Heap:=(zG4 b1 b2 h l1 l2).push { cls:=.type "zip",data:=.fields #[.none,.bool false,.bool false,.ref (zG2 b1 b2 h l1 l2).objs.size,.ref (zG3 b1 b2 h l1 l2).objs.size] }
theorem zmk(b1 b2:Bool)(l1 l2:Addr)(xs ys:Array Value):Meets (Builtin.«zip.__new__» ⟨[.type "zip",.ref l1,.ref l2],[]⟩) (λ_ R s=>zSq b1 s.heap l1 xs/\zSq b2 s.heap l2 ys/\R (.ok (.ret (.ref (zG4 b1 b2 s.heap l1 l2).objs.size))) { s with heap:=zG5 b1 b2 s.heap l1 l2 }) :=
 .of_wp λprog w A R s h=>by
  obtain⟨hp,g,d,tk,os⟩:=s;obtain⟨q1,q2,h⟩:=h;have hsub:=sub_zip;have L1:zSq b1 (Shared.heap ⟨hp,g,d,tk,os⟩) l1 xs:=q1;have L2:zSq b2 (Shared.heap ⟨hp.push (zOb b1 l1),g,d,tk,os⟩) l2 ys:=q2.push _
  wp_walk using zq8 L1,zq8 L2
  exact⟨_,rfl,h⟩
theorem zlb{prog:Program}{w:World}{A:Around}{E:Value->Shared->Prop}{s:Shared}{b1 b2:Bool}{l1 l2:Addr}{xs ys:Array Value}{Q:Value->Shared->Prop}(q1:zSq b1 s.heap l1 xs)(q2:zSq b2 s.heap l2 ys)
  (h:∀h',IsZip h' (s.heap.objs.size+4) (s.heap.objs.size+2) (s.heap.objs.size+3) .none->IsPair h' (s.heap.objs.size+2) (.ref s.heap.objs.size) (.ref (s.heap.objs.size+1))->IsPair h' (s.heap.objs.size+3) .none .none ->
   zIt b1 h' s.heap.objs.size l1 0->zIt b2 h' (s.heap.objs.size+1) l2 0->(∀c o,s.heap.get? c=some o->h'.get? c=some o)->Q (.ref (s.heap.objs.size+4)) { s with heap:=h' }) :
  wpAny (model prog w) A (call (.type "zip") [.ref l1,.ref l2]) Q E s:=by
 refine callType_new F.called_zip (by decide) (F.typeCall_zip_2 _ _) (F.newCall_zip_2 _ _) (λobj=>F.args_object_init_3 obj _ _) F.entry_zip_new (zmk b1 b2 l1 l2 xs ys) ⟨q1,q2,?_⟩;have z1:(zG1 b1 s.heap l1).objs.size=s.heap.objs.size+1:=Heap.size_push ..;have z2:(zG2 b1 b2 s.heap l1 l2).objs.size=s.heap.objs.size+2:=by rw[Heap.size_push,z1]
 have z3:(zG3 b1 b2 s.heap l1 l2).objs.size=s.heap.objs.size+3:=by rw[Heap.size_push,z2]
 have z4:(zG4 b1 b2 s.heap l1 l2).objs.size=s.heap.objs.size+4:=by rw[Heap.size_push,z3]
 have g5:(zG5 b1 b2 s.heap l1 l2).get? (zG4 b1 b2 s.heap l1 l2).objs.size=some _:=Heap.get?_push_size _ rfl;have g4:(zG5 b1 b2 s.heap l1 l2).get? (zG3 b1 b2 s.heap l1 l2).objs.size=some _:=Heap.get?_push_of_some _ (Heap.get?_push_size _ rfl);have g3:(zG5 b1 b2 s.heap l1 l2).get? (zG2 b1 b2 s.heap l1 l2).objs.size=some _:=Heap.get?_push_of_some _ (Heap.get?_push_of_some _ (Heap.get?_push_size _ rfl));have g2:(zG5 b1 b2 s.heap l1 l2).get? (zG1 b1 s.heap l1).objs.size=some (zOb b2 l2):=Heap.get?_push_of_some _ (Heap.get?_push_of_some _ (Heap.get?_push_of_some _ (Heap.get?_push_size _ rfl)));have g1:(zG5 b1 b2 s.heap l1 l2).get? s.heap.objs.size=some (zOb b1 l1):=Heap.get?_push_of_some _ (Heap.get?_push_of_some _ (Heap.get?_push_of_some _ (Heap.get?_push_of_some _ (Heap.get?_push_size _ rfl))));show _/\_;rw[z2,z3,z4]at g5;rw[z1,z2]at g3;rw[z3]at g4;rw[z1]at g2;rw[z4];have i1:zIt b1 (zG5 b1 b2 s.heap l1 l2) s.heap.objs.size l1 0:=by
  cases b1
  ·exact⟨_,g1,rfl,rfl⟩
  ·exact⟨_,g1,rfl,rfl⟩
 have i2:zIt b2 (zG5 b1 b2 s.heap l1 l2) (s.heap.objs.size+1) l2 0:=by
  cases b2
  ·exact⟨_,g2,rfl,rfl⟩
  ·exact⟨_,g2,rfl,rfl⟩
 exact⟨⟨_,g5,rfl⟩,h _ g5 g3 g4 i1 i2 λc o x=>Heap.get?_push_of_some _ (Heap.get?_push_of_some _ (Heap.get?_push_of_some _ (Heap.get?_push_of_some _ (Heap.get?_push_of_some _ x))))⟩
def SqG(b:Bool)(K:PySem.W.Frag)(H:Hp)(a:Addr)(xs:List V):Prop:=if b=true then SqT K H a xs else SqL K H a xs
theorem Inv.sqG{X:Cx}{pins:List (Addr×Obj)}{σ:St}{H:Hp}{s:Shared}{b:Bool}{a:Addr}{xs:List V}(I:Inv X pins σ H s)(h:SqG b X.K H a xs):∃its:List Value,Vals xs its/\zSq b s.heap a its.toArray/\xs.length<=sizeLine:=by
 cases b
 ·obtain⟨its,r,p,z⟩:=I.list (show SqL X.K H a xs from h);exact⟨its,r,p.isList,z⟩
 ·obtain⟨its,r,p,z⟩:=I.tuple (show SqT X.K H a xs from h);exact⟨its,r,p,z⟩
theorem Inv.sqG_inj{X:Cx}{pins:List (Addr×Obj)}{σ:St}{H:Hp}{s:Shared}{b:Bool}{a:Addr}{xs ys:List V}(I:Inv X pins σ H s)(h:SqG b X.K H a xs)(h':SqG b X.K H a ys):xs=ys:=by
 cases b
 ·exact I.list_inj (show SqL X.K H a xs from h) h'
 ·exact I.tuple_inj (show SqT X.K H a xs from h) h'
def Izg(b1 b2:Bool)(K:PySem.W.Frag)(a b:Addr):It :=
 ⟨λi H=>∃xs ys x y,SqG b1 K H a xs/\SqG b2 K H b ys/\xs[i]?=some x/\ys[i]?=some y,λi H v H'=>∃p x y,H p=none/\v=.ref p/\H'=upd H p (.tup [x,y])/\(∀xs,SqG b1 K H a xs->xs[i]?=some x)/\∀ys,SqG b2 K H b ys->ys[i]?=some y,λi H=>∃xs ys,SqG b1 K H a xs/\SqG b2 K H b ys/\(xs.length<=i\/ys.length<=i)⟩
theorem zlc{P:Program}{w:World}{K:PySem.W.Frag}{b1 b2:Bool}{elts:List Expr}{x1}{tpos:Pos}{l1 l2 z TI TO i1 i2:Addr}(D:ZipApart z TI TO i1 i2 l1 l2):
  zkv P w K (.Tuple elts x1 tpos) (Izg b1 b2 K l1 l2) [z,TI,TO,i1,i2] z (λi h=>IsZip h z TI TO .none/\IsPair h TI (.ref i1) (.ref i2)/\(∃a b,IsPair h TO a b)/\zIt b1 h i1 l1 i/\zIt b2 h i2 l2 i) where
 mem:=by simp
 obj:=λi h st b hb=>by
  obtain⟨hz,hTI,⟨a,b',hTO⟩,h1,h2⟩:=st;simp only[List.mem_cons,List.not_mem_nil,or_false]at hb;rcases hb with rfl|rfl|rfl|rfl|rfl
  ·exact⟨_,hz,λv q=>by cases (show Data.fields _=Data.cell v from q)⟩
  ·exact⟨_,hTI,λv q=>by cases (show Data.seq _ _=Data.cell v from q)⟩
  ·exact⟨_,hTO,λv q=>by cases (show Data.seq _ _=Data.cell v from q)⟩
  ·exact h1.own
  ·exact h2.own
 keep:=λi h h' st k=>by
  obtain⟨hz,hTI,⟨a,b',hTO⟩,h1,h2⟩:=st;exact⟨k _ (by simp) _ hz,k _ (by simp) _ hTI,⟨a,b',k _ (by simp) _ hTO⟩,h1.at λo e=>k i1 (by simp) o e,h2.at λo e=>k i2 (by simp) o e⟩
 item:=by
  intro X hP hw hK hc i pins s σ H E I hf st hg;subst hP hw hK;refine gg λG zk=>?_;obtain⟨xs,ys,x,y,hq1,hq2,hx,hy⟩:=hg;obtain⟨hz,hTI,⟨a,b',hTO⟩,h1,h2⟩:=st;obtain⟨its1,rv1,p1,hz1⟩:=I.sqG hq1;obtain⟨its2,rv2,p2,hz2⟩:=I.sqG hq2;obtain⟨u1,hu1,ru1⟩:=rv1.get hx;obtain⟨u2,hu2,ru2⟩:=rv2.get hy;refine zk ?_;clear zk;refine zcg D hz hTI hTO h1 h2 p1 p2 (x:=u1) (y:=u2) (by simpa using hu1) (by simpa using hu2) λh' hz' hTO' h1' h2' hp' hsz hk=>⟨_,rfl,?_⟩
  refine wpAny_letOwnedTupleGo_zip hz' λh'' hz'' hsb=>?_;have ne:s.heap.objs.size≠z:=λq=>by have:=Heap.lt_size hz;rw[<-q]at this;exact Nat.lt_irrefl _ this
  have hp2:IsPair h'' s.heap.objs.size u1 u2:=(hsb.2 _ ne).trans hp';have nb:∀c o,s.heap.get? c=some o->c≠s.heap.objs.size:=λc o e=>Nat.ne_of_lt (Heap.lt_size e);have I1:Inv X pins σ (upd H s.heap.objs.size (.tup [x,y])) { s with heap:=h'',toks:=s.toks }:=by
   refine I.turnedNew (ch:=[z,TI,TO,i1,i2]) hf (Nat.le_refl _) (λb u hb e=>?_) ⟨by simp[sizeLine_eq],[u1,u2],.cons ru1 (.cons ru2 .nil),?_⟩
   ·simp only[List.mem_cons,List.not_mem_nil,or_false,not_or]at hb;exact(hsb.2 b hb.1).trans (hk b u hb.1 hb.2.2.1 hb.2.2.2.1 hb.2.2.2.2 e)
   ·exact⟨_,hp2,rfl,⟨_,rfl⟩,rfl⟩
  refine⟨.ref s.heap.objs.size,_,I1,rfl,⟨_,x,y,I.hok.fresh (Nat.le_refl _),rfl,rfl,λxs' h=>by rw[I.sqG_inj h hq1];exact hx,λys' h=>by rw[I.sqG_inj h hq2];exact hy⟩,⟨hz'',?_,?_,?_,?_⟩,λb hb=>?_⟩
  ·exact(hsb.2 _ D.TIz).trans (hk _ _ D.TIz D.TITO D.TIi1 D.TIi2 hTI)
  ·exact⟨_,_,(hsb.2 _ D.TOz).trans hTO'⟩
  ·exact h1'.at λo e=>(hsb.2 _ D.i1z).trans e
  ·exact h2'.at λo e=>(hsb.2 _ D.i2z).trans e
  ·rw[zv]
   ·exact(hf b hb).1
   ·intro q;subst q;simp only[List.mem_cons,List.not_mem_nil,or_false]at hb;obtain⟨o1,e1,_⟩:=h1.own;obtain⟨o2,e2,_⟩:=h2.own;rcases hb with q|q|q|q|q
    ·exact nb _ _ hz q.symm
    ·exact nb _ _ hTI q.symm
    ·exact nb _ _ hTO q.symm
    ·exact nb _ _ e1 q.symm
    ·exact nb _ _ e2 q.symm
 done:=by
  intro X hP hw hK hc i pins s σ H E I hf st hg;subst hP hw hK;obtain⟨xs,ys,hq1,hq2,hl⟩:=hg;obtain⟨hz,hTI,⟨a,b',hTO⟩,h1,h2⟩:=st;obtain⟨its1,rv1,p1,hz1⟩:=I.sqG hq1;obtain⟨its2,rv2,p2,hz2⟩:=I.sqG hq2;have e1:=rv1.length;have e2:=rv2.length;refine zdj (I.ok.hd hc) D hz hTI hTO h1 h2 p1 p2 (by rcases hl with q|q;exact .inl (by simp;omega);exact .inr (by simp;omega)) λh' hk=>⟨rfl,?_⟩
  refine I.turnedL (t':=s.toks) (ch:=[z,TI,TO,i1,i2]) hf λb u hb e=>?_;simp only[List.mem_cons,List.not_mem_nil,or_false,not_or]at hb;exact hk b u hb.1 hb.2.2.1 hb.2.2.2.1 hb.2.2.2.2 e
 self:=λ_ _ _ _ _ st h=>wpAny_pyIter_zip st.1 h
section
variable {X:Cx}
theorem zld{prog:Program}{w:World}{A:Around}{E:Value->Shared->Prop}{s:Shared}{t sl:Addr}{its:Array Value}{vl vu:Value}{lo hi:Option Int}{Q:Value->Shared->Prop}(ht:IsTup s.heap t its)(hs:s.heap.IsSliceOf sl vl vu .none)(pl:IsPart vl lo)(pu:IsPart vu hi)
  (h0:HT.sIx its.size 0 lo=0) (h1:HT.sIx its.size its.size hi=its.size) (h:Q (.ref t) s):wpAny (model prog w) A (getItem (.ref t) (.ref sl)) Q E s:=by
 obtain⟨os,hos,hcs,hds⟩:=id hs;have hTs:s.TypeIs (.ref sl) "slice" :=⟨os,hos,hcs⟩
 unfold getItem
 try with_reducible refine wpAny_holding ?_
 first |(refine wpAny_bind (wpAny_pure ?_))|skip
 refine wpAny_bind (wpAny_sequenceKey ht.typeIs (by decide) (wpAny_bind (wpAny_callSpecial?_slot (name:=Str.ofString "__getitem__") ht.typeIs PyProof.Rows.slot_tuple_getitem (wpAny_call_entry PyProof.Rows.slot_tuple_getitem ht.typeIs entry_tuple_getitem ?_ (args_tuple_getitem _ _)))));refine(show wpAny _ _ (Builtin.Tuple.tupleItemsOf (.ref t) >>= _) _ _ s from wpAny_bind (tupleItemsOf_ ht (wpAny_bind (wpAny_typeOf hTs ?_))));rw[if_pos (by decide)];refine wpAny_bind (HT.sliceApplied_gen hs pl pu ?_);rw[h0,h1];have hy:(((((0:Nat):Int) == 0 && (1:Int) == 1) && (its.size-0 == its.size))=true):=by simp
 show wpAny _ _ (if (((0:Nat):Int) == 0 && (1:Int) == 1 && (its.size-0) == its.size)=true then _ else _) _ _ s;rw[if_pos hy];refine wpAny_bind (m:=Builtin.Tuple.tupleIsExact _) ?_;unfold Builtin.Tuple.tupleIsExact;refine wpAny_bind (wpAny_typeOf ht.typeIs (wpAny_pure ?_));rw[if_pos (by decide)]
 first
  |exact wpAny_bind (wpAny_rule (wpAny_pure ⟨_,rfl,wpAny_pure h⟩))
  |exact wpAny_bind (wpAny_rule (wpAny_bind (wpAny_pure (wpAny_pure ⟨_,rfl,wpAny_pure h⟩))))
  |exact wpAny_bind (wpAny_rule (wpAny_bind (wpAny_pure ⟨_,rfl,wpAny_pure h⟩)))
theorem fm_congr{α β:Type}{f g:α->Option β}:∀{l:List α},(∀x∈l,f x=g x)->l.filterMap f=l.filterMap g
 |[],_=>rfl
 |a::l,h=>by
  rw[List.filterMap_cons,List.filterMap_cons,h a (by simp),fm_congr (l:=l) λx hx=>h x (List.mem_cons_of_mem _ hx)]
end
inductive Kn(H:Hp):V->Prop
 |non:Kn H .non
 |bl (b:Bool):Kn H (.bl b)
 |int (i:Int):Kn H (.int i)
 |str (x:Str):Kn H (.str x)
 |lst {a:Addr}{xs:List V} (e:H a=some (.lst xs)):Kn H (.ref a)
 |tup {a:Addr}{xs:List V} (e:H a=some (.tup xs)):Kn H (.ref a)
 |dct {a:Addr}{ks:List (Key×V)} (e:H a=some (.dK ks)):Kn H (.ref a)
def we(H:Hp):V->Option (List V)
 |.ref a=>match H a with|some (.tup xs)=>some xs|_=>none
 |_=>none
theorem zd1{H:Hp}{a:Addr}{xs:List V}(e:H a=some (.tup xs)):we H (.ref a)=some xs:=by unfold we;simp only[e]
def Th:Nat->Hp->V->Prop
 |0,H,x=>Kn H x
 |n+1,H,x=>Kn H x/\∀xs,we H x=some xs->∀y∈xs,Th n H y
theorem Th.kn:∀{n:Nat}{H:Hp}{x:V},Th n H x->Kn H x
 |0,_,_,h=>h
 |_+1,_,_,h=>h.1
theorem Th.tup{n:Nat}{H:Hp}{a:Addr}{xs:List V}(e:H a=some (.tup xs))(h:∀y∈xs,Th n H y):Th (n+1) H (.ref a) :=
 ⟨.tup e,λys e' y hy=>by rw[zd1 e]at e';cases e';exact h y hy⟩
theorem Th.flat{n:Nat}{H:Hp}{x:V}(h:Kn H x)(e:we H x=none):Th n H x:=by
 cases n with
 |zero=>exact h
 |succ n=>exact⟨h,λxs e'=>by rw[e]at e';cases e'⟩
theorem Th.int(n:Nat)(H:Hp)(i:Int):Th n H (.int i):=Th.flat (.int i) rfl
theorem Th.bl(n:Nat)(H:Hp)(b:Bool):Th n H (.bl b):=Th.flat (.bl b) rfl
theorem Th.str(n:Nat)(H:Hp)(x:Str):Th n H (.str x):=Th.flat (.str x) rfl
theorem Th.non(n:Nat)(H:Hp):Th n H .non:=Th.flat .non rfl
theorem Th.lst(n:Nat){H:Hp}{a:Addr}{xs:List V}(e:H a=some (.lst xs)):Th n H (.ref a):=Th.flat (.lst e) (by unfold we;simp only[e])
theorem Th.dct(n:Nat){H:Hp}{a:Addr}{ks:List (Key×V)}(e:H a=some (.dK ks)):Th n H (.ref a):=Th.flat (.dct e) (by unfold we;simp only[e])
def inB(lo hi:Int):V->Bool
 |.int i=>decide (lo<=i) && decide (i<=hi)
 |_=>false
def zvi:List (Int×Int)->List V->Bool
 |[],[]=>true
 |b::bs,x::xs=>inB b.1 b.2 x && zvi bs xs
 |_,_=>false
def whB(bs:List (Int×Int)):Option (List V)->Bool
 |some xs=>zvi bs xs
 |none=>false
theorem Same.seqT{K:PySem.W.Frag}{H H':Hp}{a:Addr}{xs:List V}(e:Same H H')(h:SqT K H a xs):SqT K H' a xs:=by
 rcases h with(h |⟨o,h⟩)|h
 ·exact .inl (.inl (e _ _ h))
 ·exact .inl (.inr ⟨o,e _ _ h⟩)
 ·exact .inr h
theorem Kn.butL{H H':Hp}{p:Addr}{a b:List V}{x:V}(h1:H p=some (.lst a))(h2:H' p=some (.lst b))(s:But p H H')(h:Kn H x):Kn H' x:=by
 cases h with
 |non=>exact .non
 |bl b=>exact .bl b
 |int i=>exact .int i
 |str x=>exact .str x
 |@lst c xs e=>
  by_cases hc:c=p
  ·subst hc;exact .lst h2
  ·exact .lst (s _ _ hc e)
 |tup e=>exact .tup (s _ _ (zf0 e h1 (by intro z;cases z)) e)
 |dct e=>exact .dct (s _ _ (zf0 e h1 (by intro z;cases z)) e)
theorem zch{H H':Hp}{p:Addr}{a b:List V}{x:V}(h1:H p=some (.lst a))(h2:H' p=some (.lst b))(s:But p H H')(h:Kn H x):we H' x=we H x:=by
 cases h with
 |@lst c xs e=>
  by_cases hc:c=p
  ·subst hc;unfold we;simp only[e,h2]
  ·unfold we;simp only[e,s _ _ hc e]
 |tup e=>have:=s _ _ (zf0 e h1 (by intro z;cases z)) e;unfold we;simp only[e,this]
 |dct e=>have:=s _ _ (zf0 e h1 (by intro z;cases z)) e;unfold we;simp only[e,this]
 |_=>rfl
theorem Th.butL:∀{n:Nat}{H H':Hp}{p:Addr}{a b:List V}{x:V},H p=some (.lst a)->H' p=some (.lst b)->But p H H'->Th n H x->Th n H' x
 |0,_,_,_,_,_,_,h1,h2,s,h=>Kn.butL h1 h2 s h
 |n+1,_,_,_,_,_,_,h1,h2,s,h=>⟨h.1.butL h1 h2 s,λxs e y hy=>Th.butL h1 h2 s (h.2 xs ((zch h1 h2 s h.1).symm.trans e) y hy)⟩
theorem Th.pen{n:Nat}{H H':Hp}{p:Addr}{x:V}(h1:Pen H p)(h2:Pen H' p)(s:But p H H')(h:Th n H x):Th n H' x:=by
 obtain⟨a,b,c,e⟩:=h1;obtain⟨a',b',c',e'⟩:=h2;exact Th.butL e e' s h
theorem zml{α:Type}{xs:List α}{k:Int}(h0:0<=k)(h1:k<xs.length):∃v,atI xs k=some v/\v∈xs:=by
 obtain⟨v,h,e⟩:=zsr h0 h1;exact⟨v,h,List.mem_of_getElem? e⟩
theorem zvj{K:PySem.W.Frag}{H:Hp}{a:Addr}{its:Array Value}{n:Nat}{sl:Array (Option Value)}{xs:List V}(l:K.lookup a=some ⟨.type "tuple",none,.seq its n,sl⟩)(hz:its.size<=10000)(r:Vals xs its.toList):SqT K H a xs:=.inr ⟨_,its,n,l,rfl,rfl,rfl,zsq hz,r⟩
def zvk(i j k:Nat)(ta:TA):TS:=λD σ H=>ta σ H λvs H1=>∃u v w,vs = [u,v,w]/\D.nx (((σ.set i (some u)).set j (some v)).set k (some w)) H1
theorem zjo{X:Cx}{i j k:Nat}{x y z:Str}{a b c:Expr}{ta:TA}{px py pz pt pos:Pos}{kt k2 pt2}(hc:X.calm=true)(hN:X.N.Nodup)(hi:X.N[i]?=some x)(hj:X.N[j]?=some y)(hk:X.N[k]?=some z)(hij:i≠j)(hik:i≠k)(hjk:j≠k)
  (hx:X.env.scope.names.lookup x=some .local) (hy:X.env.scope.names.lookup y=some .local) (hz:X.env.scope.names.lookup z=some .local) (ha:PA X [a,b,c] ta)
  (hw:swappedStores [.Tuple [.Name x px,.Name y py,.Name z pz] kt pt] (.Tuple [a,b,c] k2 pt2) X.env=pure (some [x,y,z]))
  (hs:swapsWithSole [.Tuple [.Name x px,.Name y py,.Name z pz] kt pt] (.Tuple [a,b,c] k2 pt2) pos.line X.env=pure false:=by rfl) :
  PS X (.Assign [.Tuple [.Name x px,.Name y py,.Name z pz] kt pt] (.Tuple [a,b,c] k2 pt2) pos) (zvk i j k ta):=by
 intro pins s σ H D I h;rw[exec_Assign_arm];refine wpAny_bind (wpAny_standAt ?_);rw[hs];refine wpAny_bind (wpAny_pure ?_);rw[if_neg (by decide)];refine wpAny_bind (Tuple_ (thn (ha _ pins s σ H _ I h) λus s1 zr86=>?_));obtain⟨vs,H1,I1,r1,q1⟩:=zr86;obtain⟨v1,v2,v3,e1,q1⟩:=q1;subst e1;obtain⟨u1,u2,u3,rfl,r1,r2,r3⟩:∃u1 u2 u3,us = [u1,u2,u3]/\RelV v1 u1/\RelV v2 u2/\RelV v3 u3:=by
  cases r1 with
  |cons p q=>
   cases q with
   |cons p' q'=>
    cases q' with
    |cons p'' q''=>
     cases q'';exact⟨_,_,_,rfl,p,p',p''⟩
 refine wpAny_newObj_type ?_ (by show 3<=sizeLine;decide);have I2:Inv X pins σ H1 { s1 with heap:=s1.heap.push { cls:=.type "tuple",data:=.seq [u1,u2,u3].toArray } }:=I1.kept (t':=s1.toks) λb o e=>Heap.get?_push_of_some _ e;rw[hw];refine wpAny_bind (wpAny_pure ?_);show wpAny (model X.prog X.w) X.A (do rule "assign.swapped-stores";let items <-unpackItems (.ref s1.heap.objs.size) 3 none;assignInOrder [λv=>bindName X.env z v,λv=>bindName X.env y v,λv=>bindName X.env x v] items.reverse;pure Flow.next) _ _ _;refine wpAny_bind (wpAny_rule (wpAny_bind (unpackItems_tuple (items:=#[u1,u2,u3]) (I.ok.hd hc) (IsTup.new s1.heap _) λh' hx'=>?_)));have I3:=I2.kept (h':=h') (t':=s1.toks) λb o e=>hx' b o (Nat.ne_of_lt (Heap.lt_size e)) e;show wpAny _ _ (assignInOrder [λv=>bindName X.env z v,λv=>bindName X.env y v,λv=>bindName X.env x v] [u3,u2,u1] >>= λ_=>pure Flow.next) _ _ _;refine wpAny_bind (assignInOrder_cons (wpAny_bindName (wj I3 hN hk (.inl hz) r3 (λs2 I4=>?_) (.inr hz))));refine assignInOrder_cons (wpAny_bindName (wj I4 hN hj (.inl hy) r2 (λs3 I5=>?_) (.inr hy)));refine assignInOrder_cons (wpAny_bindName (wj I5 hN hi (.inl hx) r1 (λs4 I6=>assignInOrder_nil (wpAny_pure ?_)) (.inr hx)));have e:(((σ.set k (some v3)).set j (some v2)).set i (some v1))=(((σ.set i (some v1)).set j (some v2)).set k (some v3)):=by
  rw[List.set_comm _ _ (Ne.symm hjk),List.set_comm _ _ (Ne.symm hik),List.set_comm _ _ (Ne.symm hij)]
 rw[e]at I6;exact⟨_,H1,I6,q1⟩
theorem zle{X:Cx}:OpR X (compareOp .IsNot) (λx y H Q=>∃a b,x=.bl a/\y=.bl b/\Q (.bl (!decide (a=b))) H):=by
 intro pins s σ H x y v u Q I rx ry h;obtain⟨a,b,rfl,rfl,q⟩:=h
 cases rx
 cases ry
 cases a <;> cases b <;> exact wpAny_pure (yp I q rfl)
def NoD(H:Hp)(x:V):Prop:=∀a,x=.ref a->(∃xs,H a=some (.lst xs))\/∃xs,H a=some (.tup xs)
end L2
namespace L2
end L2
namespace L2
open PySem
theorem vi{es:List Expr}{x1}{pos:Pos}{rest:List Expr}{env:Env}:starEach (.Tuple es x1 pos::rest) env=(false,eval (.Tuple es x1 pos) env)::starEach rest env:=by rw[starEach];intro e p h;cases h
theorem zxc{es:List Expr}{pos:Pos}{rest:List Expr}{env:Env}:starEach (.List es pos::rest) env=(false,eval (.List es pos) env)::starEach rest env:=by rw[starEach];intro e p h;cases h
theorem yf{c j}{pos:Pos}{rest:List Expr}{env:Env}:starEach (.Constant c j pos::rest) env=(false,eval (.Constant c j pos) env)::starEach rest env:=by rw[starEach];intro e p h;cases h
end L2
namespace L2
open PySem PySem.Spec PyProof.Rows
end L2
namespace L2
open PySem
theorem zvl{X:Cx}{e:Expr}{t:TT}(h:PW X e t):PT X e t:=h.pt
end L2
namespace L2
open PySem PySem.Spec PyProof.Rows
theorem NoD.butL{H H':Hp}{p:Addr}{a b:List V}{x:V}(h1:H p=some (.lst a))(h2:H' p=some (.lst b))(s:But p H H')(h:NoD H x):NoD H' x:=λc e=>by
 by_cases hc:c=p
 ·subst hc;exact .inl ⟨b,h2⟩
 ·rcases h c e with⟨xs,q⟩ |⟨xs,q⟩
  ·exact .inl ⟨xs,s _ _ hc q⟩
  ·exact .inr ⟨xs,s _ _ hc q⟩
def Ts:Nat->Hp->V->Prop
 |0,H,x=>Kn H x/\NoD H x
 |n+1,H,x=>Kn H x/\∀xs,we H x=some xs->∀y∈xs,Ts n H y
theorem Ts.kn:∀{n:Nat}{H:Hp}{x:V},Ts n H x->Kn H x
 |0,_,_,h=>h.1
 |_+1,_,_,h=>h.1
theorem Ts.butL:∀{n:Nat}{H H':Hp}{p:Addr}{a b:List V}{x:V},H p=some (.lst a)->H' p=some (.lst b)->But p H H'->Ts n H x->Ts n H' x
 |0,_,_,_,_,_,_,h1,h2,s,h=>⟨h.1.butL h1 h2 s,h.2.butL h1 h2 s⟩
 |n+1,_,_,_,_,_,_,h1,h2,s,h=>⟨h.1.butL h1 h2 s,λxs e y hy=>Ts.butL h1 h2 s (h.2 xs ((zch h1 h2 s h.1).symm.trans e) y hy)⟩
theorem Ts.pen{n:Nat}{H H':Hp}{p:Addr}{x:V}(h1:Pen H p)(h2:Pen H' p)(s:But p H H')(h:Ts n H x):Ts n H' x:=by
 obtain⟨a,b,c,e⟩:=h1;obtain⟨a',b',c',e'⟩:=h2;exact Ts.butL e e' s h
theorem Ts.tup{n:Nat}{H:Hp}{a:Addr}{xs:List V}(e:H a=some (.tup xs))(h:∀y∈xs,Ts n H y):Ts (n+1) H (.ref a) :=
 ⟨.tup e,λys e' y hy=>by rw[zd1 e]at e';cases e';exact h y hy⟩
theorem Ts.flat{n:Nat}{H:Hp}{x:V}(h:Kn H x)(e:we H x=none)(d:NoD H x):Ts n H x:=by
 cases n with
 |zero=>exact⟨h,d⟩
 |succ n=>exact⟨h,λxs e'=>by rw[e]at e';cases e'⟩
theorem Ts.int(n:Nat)(H:Hp)(i:Int):Ts n H (.int i):=Ts.flat (.int i) rfl (λ_ z=>by cases z)
theorem Ts.bl(n:Nat)(H:Hp)(b:Bool):Ts n H (.bl b):=Ts.flat (.bl b) rfl (λ_ z=>by cases z)
theorem Ts.str(n:Nat)(H:Hp)(x:Str):Ts n H (.str x):=Ts.flat (.str x) rfl (λ_ z=>by cases z)
theorem Ts.non(n:Nat)(H:Hp):Ts n H .non:=Ts.flat .non rfl (λ_ z=>by cases z)
theorem Ts.lst(n:Nat){H:Hp}{a:Addr}{xs:List V}(e:H a=some (.lst xs)):Ts n H (.ref a):=Ts.flat (.lst e) (by unfold we;simp only[e]) (λc z=>by cases z;exact .inl ⟨xs,e⟩)
theorem Ts.dct(n:Nat){H:Hp}{a:Addr}{ks:List (Key×V)}(e:H a=some (.dK ks)):Ts (n+1) H (.ref a):=⟨.dct e,λxs e'=>by unfold we at e';simp only[e]at e';cases e'⟩
open AutoSeq1 (wpAny_loadPart')
section
variable {X:Cx}
end
end L2
namespace L2
end L2
namespace L2
open PySem PySem.Spec PyProof.Rows
section
variable {X:Cx}{a b c d:Expr}{ta tb tc td:TE}{pos:Pos}
end
abbrev D:=PyData
def kD:Key->D
 |.inl i=>.int i
 |.inr x=>.str x
def zax(a:Addr):HO:=.ext λh=>∃(x y z:Int) (tx ty tz:Tok) (n:Nat),h.get? a=some { cls:=.type "list",data:=.seq #[.int x tx,.int y ty,.int z tz] n }
def HO.per:HO->Bool
 |.tup _=>true
 |.frz _ _=>true
 |.ext _=>true
 |_=>false
def Pers(H H':Hp):Prop:=∀a o,H a=some o->o.per=true->H' a=some o
theorem Pers.refl(H:Hp):Pers H H:=λ_ _ h _=>h
theorem Pers.trans{H H1 H2:Hp}(a:Pers H H1)(b:Pers H1 H2):Pers H H2:=λc o h p=>b c o (a c o h p) p
theorem Same.pers{H H':Hp}(s:Same H H'):Pers H H':=λa o h _=>s a o h
theorem Pers.sqT{K:PySem.W.Frag}{H H':Hp}{a:Addr}{xs:List V}(p:Pers H H')(h:SqT K H a xs):SqT K H' a xs:=by
 rcases h with(h |⟨o,h⟩)|h
 ·exact .inl (.inl (p _ _ h rfl))
 ·exact .inl (.inr ⟨o,p _ _ h rfl⟩)
 ·exact .inr h
section
variable (K:PySem.W.Frag)
mutual
inductive Rep(H:Hp):D->V->Prop
 |non:Rep H .none .non
 |bl {b:Bool}:Rep H (.bool b) (.bl b)
 |int {i:Int}:Rep H (.int i) (.int i)
 |str {x:Str}:Rep H (.str x) (.str x)
 |tup {xs:List D}{a:Addr}{vs:List V} (h:SqT K H a vs) (r:Reps H xs vs):Rep H (.tuple xs) (.ref a)
 |lst {xs:List D}{a:Addr}{vs:List V}{o:Obj} (h:H a=some (.frz o (.lst vs))) (r:Reps H xs vs):Rep H (.list xs) (.ref a)
 |dic {kvs:List (D×D)}{a:Addr}{kws:List (Key×V)}{o:Obj} (h:H a=some (.frz o (.dK kws))) (r:RepK H kvs kws):Rep H (.dict kvs) (.ref a)
inductive Reps(H:Hp):List D->List V->Prop
 |nil:Reps H [] []
 |cons {d:D}{v:V}{ds:List D}{vs:List V} (r:Rep H d v) (t:Reps H ds vs):Reps H (d::ds) (v::vs)
inductive RepK(H:Hp):List (D×D)->List (Key×V)->Prop
 |nil:RepK H [] []
 |cons {k:Key}{d:D}{v:V}{ds:List (D×D)}{vs:List (Key×V)} (r:Rep H d v) (t:RepK H ds vs):RepK H ((kD k,d)::ds) ((k,v)::vs)
end
end
section
variable {K:PySem.W.Frag}{H H':Hp}
theorem Rep.mono(p:Pers H H'){d:D}{v:V}(h:Rep K H d v):Rep K H' d v :=
 Rep.rec (motive_1:=λd v _=>Rep K H' d v) (motive_2:=λds vs _=>Reps K H' ds vs) (motive_3:=λds vs _=>RepK K H' ds vs) .non .bl .int .str (λh _ i=>.tup (p.sqT h) i) (λh _ i=>.lst (p _ _ h rfl) i) (λh _ i=>.dic (p _ _ h rfl) i) .nil (λ_ _ i j=>.cons i j) .nil (λ_ _ i j=>.cons i j) h
theorem Reps.ind{P:List D->List V->Prop}(n:P [] [])(c:∀d v ds vs,Rep K H d v->Reps K H ds vs->P ds vs->P (d::ds) (v::vs)){ds:List D}{vs:List V}(h:Reps K H ds vs):P ds vs :=
 Reps.rec (motive_1:=λ_ _ _=>True) (motive_2:=λds vs _=>P ds vs) (motive_3:=λ_ _ _=>True) trivial trivial trivial trivial (λ_ _ _=>trivial) (λ_ _ _=>trivial) (λ_ _ _=>trivial) n (λr t _ j=>c _ _ _ _ r t j) trivial (λ_ _ _ _=>trivial) h
theorem Reps.mono(p:Pers H H'){ds:List D}{vs:List V}(h:Reps K H ds vs):Reps K H' ds vs:=h.ind .nil λ_ _ _ _ r _ j=>.cons (r.mono p) j
theorem RepK.mono(p:Pers H H'){ds:List (D×D)}{vs:List (Key×V)}(h:RepK K H ds vs):RepK K H' ds vs :=
 RepK.rec (motive_1:=λ_ _ _=>True) (motive_2:=λ_ _ _=>True) (motive_3:=λds vs _=>RepK K H' ds vs) trivial trivial trivial trivial (λ_ _ _=>trivial) (λ_ _ _=>trivial) (λ_ _ _=>trivial) trivial (λ_ _ _ _=>trivial) .nil (λr _ _ j=>.cons (r.mono p) j) h
theorem Reps.length{ds:List D}{vs:List V}(h:Reps K H ds vs):ds.length=vs.length:=h.ind (P:=λds vs=>ds.length=vs.length) rfl λ_ _ _ _ _ _ j=>congrArg (·+1) j
theorem Reps.append{ds es:List D}{vs ws:List V}(h:Reps K H ds vs)(s:Reps K H es ws):Reps K H (ds++es) (vs++ws):=h.ind (P:=λds vs=>Reps K H (ds++es) (vs++ws)) s λ_ _ _ _ r _ j=>.cons r j
theorem Reps.get{ds:List D}{vs:List V}{i:Nat}{d:D}(h:Reps K H ds vs):ds[i]?=some d->∃v,vs[i]?=some v/\Rep K H d v :=
 h.ind (P:=λds vs=>∀i:Nat,ds[i]?=some d->∃v,vs[i]?=some v/\Rep K H d v) (λ_ e=>nomatch e) (λd' v ds vs r _ j i e=>by
  cases i with
  |zero=>cases e;exact⟨v,rfl,r⟩
  |succ i=>exact j i e) i
theorem Reps.take{ds:List D}{vs:List V}(n:Nat)(h:Reps K H ds vs):Reps K H (ds.take n) (vs.take n) :=
 h.ind (P:=λds vs=>∀n:Nat,Reps K H (ds.take n) (vs.take n)) (λn=>by rw[List.take_nil,List.take_nil];exact .nil) (λ_ _ _ _ r _ j n=>by
  cases n with
  |zero=>exact .nil
  |succ n=>exact .cons r (j n)) n
theorem Reps.drop{ds:List D}{vs:List V}(n:Nat)(h:Reps K H ds vs):Reps K H (ds.drop n) (vs.drop n) :=
 h.ind (P:=λds vs=>∀n:Nat,Reps K H (ds.drop n) (vs.drop n)) (λn=>by rw[List.drop_nil,List.drop_nil];exact .nil) (λ_ _ _ _ r t j n=>by
  cases n with
  |zero=>exact .cons r t
  |succ n=>exact j n) n
theorem Reps.set{d:D}{v:V}(r:Rep K H d v){ds:List D}{vs:List V}(i:Nat)(h:Reps K H ds vs):Reps K H (ds.set i d) (vs.set i v) :=
 h.ind (P:=λds vs=>∀i:Nat,Reps K H (ds.set i d) (vs.set i v)) (λ_=>.nil) (λ_ _ _ _ q t j i=>by
  cases i with
  |zero=>exact .cons r t
  |succ i=>exact .cons q (j i)) i
theorem Reps.reverse{ds:List D}{vs:List V}(h:Reps K H ds vs):Reps K H ds.reverse vs.reverse:=by
 induction ds generalizing vs with
 |nil=>cases h;exact .nil
 |cons d ds ih=>
  cases h with
  |cons r t=>rw[List.reverse_cons,List.reverse_cons];exact(ih t).append (.cons r .nil)
theorem Reps.rep{ds:List D}{vs:List V}(h:Reps K H ds vs):∀k:Nat,Reps K H (List.replicate k ds).flatten (List.replicate k vs).flatten
 |0=>.nil
 |k+1=>by
  rw[List.replicate_succ,List.replicate_succ,List.flatten_cons,List.flatten_cons];exact h.append (h.rep k)
theorem Reps.ints:∀{ns:List Int},Reps K H (ns.map PyData.int) (ns.map V.int)
 |[]=>.nil
 |_::_=>.cons .int Reps.ints
theorem Reps.of_ints{ns:List Int}{vs:List V}(h:Reps K H (ns.map PyData.int) vs):vs=ns.map V.int:=by
 induction ns generalizing vs with
 |nil=>cases h;rfl
 |cons n ns ih=>
  cases h with
  |cons r t=>cases r;rw[ih t];rfl
theorem Reps.same(s:Same H H'){ds:List D}{vs:List V}(r:Reps K H ds vs):Reps K H' ds vs:=r.mono s.pers
theorem Rep.same(s:Same H H'){d:D}{v:V}(r:Rep K H d v):Rep K H' d v:=r.mono s.pers
end
section
variable (K:PySem.W.Frag)
mutual
inductive RepN(H:Hp):D->V->Prop
 |non:RepN H .none .non
 |bl {b:Bool}:RepN H (.bool b) (.bl b)
 |int {i:Int}:RepN H (.int i) (.int i)
 |str {x:Str}:RepN H (.str x) (.str x)
 |tup {xs:List D}{a:Addr}{vs:List V} (h:SqT K H a vs) (r:RepNs H xs vs):RepN H (.tuple xs) (.ref a)
 |lst {xs:List D}{a:Addr}{vs:List V} (h:Rd H a (.lst vs)) (r:RepNs H xs vs):RepN H (.list xs) (.ref a)
inductive RepNs(H:Hp):List D->List V->Prop
 |nil:RepNs H [] []
 |cons {d:D}{v:V}{ds:List D}{vs:List V} (r:RepN H d v) (t:RepNs H ds vs):RepNs H (d::ds) (v::vs)
end
end
section
variable {K:PySem.W.Frag}{H H':Hp}
theorem Same.rd(s:Same H H'){a:Addr}{u:HO}(h:Rd H a u):Rd H' a u:=by
 rcases h with h |⟨o,h⟩
 ·exact .inl (s _ _ h)
 ·exact .inr ⟨o,s _ _ h⟩
theorem RepN.gen(ht:∀{a vs},SqT K H a vs->SqT K H' a vs)(hl:∀{a vs},Rd H a (.lst vs)->Rd H' a (.lst vs)){d:D}{v:V}(h:RepN K H d v):RepN K H' d v :=
 RepN.rec (motive_1:=λd v _=>RepN K H' d v) (motive_2:=λds vs _=>RepNs K H' ds vs) .non .bl .int .str (λh _ i=>.tup (ht h) i) (λh _ i=>.lst (hl h) i) .nil (λ_ _ i j=>.cons i j) h
theorem RepNs.ind{P:List D->List V->Prop}(n:P [] [])(c:∀d v ds vs,RepN K H d v->RepNs K H ds vs->P ds vs->P (d::ds) (v::vs)){ds:List D}{vs:List V}(h:RepNs K H ds vs):P ds vs :=
 RepNs.rec (motive_1:=λ_ _ _=>True) (motive_2:=λds vs _=>P ds vs) trivial trivial trivial trivial (λ_ _ _=>trivial) (λ_ _ _=>trivial) n (λr t _ j=>c _ _ _ _ r t j) h
theorem RepNs.gen(ht:∀{a vs},SqT K H a vs->SqT K H' a vs)(hl:∀{a vs},Rd H a (.lst vs)->Rd H' a (.lst vs)){ds:List D}{vs:List V}(h:RepNs K H ds vs):RepNs K H' ds vs:=h.ind .nil λ_ _ _ _ r _ j=>.cons (r.gen ht hl) j
theorem RepN.same(s:Same H H'){d:D}{v:V}(h:RepN K H d v):RepN K H' d v:=h.gen (λh=>s.pers.sqT h) (λh=>s.rd h)
theorem RepN.frz{a:Addr}{vs:List V}{o:Obj}(e:H a=some (.lst vs)){d:D}{v:V}(h:RepN K H d v):RepN K (upd H a (.frz o (.lst vs))) d v:=by
 have ne:∀{b:Addr}{u:HO},H b=some u->u ≠ .lst vs->b≠a:=λ{b u} h n z=>by rw[z,e]at h;cases h;exact n rfl
 refine h.gen (λ{b ws} h=>?_) (λ{b ws} h=>?_)
 ·rcases h with(h |⟨o,h⟩)|h
  ·exact .inl (.inl (by rw[zv (ne h (by intro z;cases z))];exact h))
  ·exact .inl (.inr ⟨o,by rw[zv (ne h (by intro z;cases z))];exact h⟩)
  ·exact .inr h
 ·rcases h with h |⟨o',h⟩
  ·by_cases z:b=a
   ·subst z;rw[e]at h
    cases h;exact .inr ⟨_,zx⟩
   ·exact .inl (by rw[zv z];exact h)
  ·exact .inr ⟨o',by rw[zv (ne h (by intro z;cases z))];exact h⟩
end
inductive Mx where
 |v (d:D)|l (xs:List D)
inductive O where
 |lst (xs:List D)
 |dct (kvs:List (Key×D))
 |nst (xss:List (List D)) (ds:List D)
 |anc (a:Addr) (o:O)
 |ins (c:Str) (fs:List (Str×D))
 |mix (ms:List Mx)
 |tk (ks:List Key)
 |dcT (kvs:List (List Key×D))
 |fzT (kvs:List (List Key×D))
 |insL (c:Str) (fss:List (List (Str×D)))
inductive W where
 |val (d:D)|vw (xs:List D)|vd (xs:List (Key×D))|exc (x:Str×List (Str×Int))|scr (ns:List Int)|pen|tmp (d:D)|own (o:O)
abbrev DSt:=List (Option W)
def zss:Option W->Option W
 |some (.tmp _)=>none
 |w=>w
def clr(σ:DSt):DSt:=σ.map zss
section
variable (K:PySem.W.Frag)
def RepL(H:Hp)(xs:List D)(v:V):Prop:=∃a vs,v=.ref a/\Rd H a (.lst vs)/\Reps K H xs vs
def RepT(H:Hp)(d:D)(v:V):Prop:=Rep K H d v\/∃xs,d=.list xs/\RepL K H xs v
def RepKV{κ:Type}(K:PySem.W.Frag)(H:Hp)(ks:List (κ×D))(vs:List (κ×V)):Prop:=ks.map (·.1)=vs.map (·.1)/\Reps K H (ks.map (·.2)) (vs.map (·.2))
def Nst(H:Hp):List (List D)->List Addr->Prop
 |[],[]=>True
 |xs::xss,b::bs=>(∃vs,H b=some (.lst vs)/\Reps K H xs vs)/\Nst H xss bs
 |_,_=>False
def InsA(H:Hp)(c:Str)(fs:List (Str×D))(p:Addr×Addr):Prop:=∃C fv,PySem.W.nsIn K mainGlobals c=some (some (.ref C))/\H p.1=some (.ins C p.2 fv)/\H p.2=some (.own p.1)/\fv.map (·.1)=fs.map (·.1)/\Reps K H (fs.map (·.2)) (fv.map (·.2))
def InsR(H:Hp)(c:Str):List (List (Str×D))->List (Addr×Addr)->Prop
 |[],[]=>True
 |fs::fss,p::ps=>InsA K H c fs p/\InsR H c fss ps
 |_,_=>False
def fpI:List (Addr×Addr)->List Addr
 |[]=>[]
 |p::ps=>p.1::p.2::fpI ps
def MxR(H:Hp):List Mx->List V->List Addr->Prop
 |[],[],[]=>True
 |.v d::ms,u::us,bs=>Rep K H d u/\MxR H ms us bs
 |.l xs::ms,u::us,b::bs=>u=.ref b/\(∃vs,H b=some (.lst vs)/\Reps K H xs vs)/\MxR H ms us bs
 |_,_,_=>False
def RepO(H:Hp):O->V->List Addr->Prop
 |.mix ms,v,fp=>∃a us bs,v=.ref a/\fp=a::bs/\H a=some (.lst us)/\MxR K H ms us bs
 |.lst xs,v,fp=>∃a vs,v=.ref a/\fp = [a]/\H a=some (.lst vs)/\Reps K H xs vs
 |.dct ks,v,fp=>∃a vs,v=.ref a/\fp = [a]/\H a=some (.dK vs)/\RepKV K H ks vs
 |.nst xss ds,v,fp=>∃a as us,v=.ref a/\fp=a::as/\H a=some (.lst (as.map V.ref++us))/\Nst K H xss as/\Reps K H ds us
 |.tk ks,v,fp=>∃a,v=.ref a/\fp = []/\H a=some (.tup (ks.map kV))
 |.dcT ks,v,fp=>∃a vs,v=.ref a/\fp = [a]/\H a=some (.dT vs)/\RepKV K H ks vs
 |.insL c fss,v,fp=>∃a ps,v=.ref a/\fp=a::fpI ps/\H a=some (.lst (ps.map λp=>V.ref p.1))/\InsR K H c fss ps
 |.fzT ks,v,fp=>∃a o vs,v=.ref a/\fp = []/\H a=some (.frz o (.dT vs))/\RepKV K H ks vs
 |.anc a o,v,fp=>v=.ref a/\RepO H o v fp
 |.ins c fs,v,fp=>∃a dx C fv,v=.ref a/\fp = [a,dx]/\PySem.W.nsIn K mainGlobals c=some (some (.ref C))/\H a=some (.ins C dx fv)/\H dx=some (.own a)/\fv.map (·.1)=fs.map (·.1)/\Reps K H (fs.map (·.2)) (fv.map (·.2))
def RepD(H:Hp)(xs:List (Key×D))(v:V):Prop:=∃a vs,v=.ref a/\H a=some (.dK vs)/\RepKV K H xs vs
def zxd(C:Addr)(od:Option Addr)(a:Addr):HO:=.ext λh=>∃oe,h.get? a=some oe/\oe.cls=.ref C/\oe.dict=od/\∃vs,oe.data=.fields vs
def RepX(H:Hp)(x:Str×List (Str×Int))(v:V):Prop:=∃a C od,v=.ref a/\PySem.W.nsIn K mainGlobals x.1=some (some (.ref C))/\H a=some (zxd C od a)/\((x.2 = []/\od=none)\/∃d,od=some d/\H d=some (.xd (x.2.map λp=>(p.1,V.int p.2))))
inductive Slots(H₀ H:Hp):DSt->St->List Addr->Prop
 |nil:Slots H₀ H [] [] []
 |none {v:Option V}{ws:DSt}{vs:St}{fp:List Addr} (t:Slots H₀ H ws vs fp):Slots H₀ H (Option.none::ws) (v::vs) fp
 |val {d:D}{v:V}{ws:DSt}{vs:St}{fp:List Addr} (r:Rep K H d v) (t:Slots H₀ H ws vs fp):Slots H₀ H (some (.val d)::ws) (some v::vs) fp
 |vw {xs:List D}{v:V}{ws:DSt}{vs:St}{fp:List Addr} (r:RepL K H₀ xs v) (t:Slots H₀ H ws vs fp):Slots H₀ H (some (.vw xs)::ws) (some v::vs) fp
 |vd {xs:List (Key×D)}{v:V}{ws:DSt}{vs:St}{fp:List Addr} (r:RepD K H₀ xs v) (t:Slots H₀ H ws vs fp):Slots H₀ H (some (.vd xs)::ws) (some v::vs) fp
 |exc {xs:Str×List (Str×Int)}{v:V}{ws:DSt}{vs:St}{fp:List Addr} (r:RepX K H₀ xs v) (t:Slots H₀ H ws vs fp):Slots H₀ H (some (.exc xs)::ws) (some v::vs) fp
 |scr {ns:List Int}{a:Addr}{ws:DSt}{vs:St}{fp:List Addr} (r:SqL K H₀ a (ns.map V.int)) (t:Slots H₀ H ws vs fp):Slots H₀ H (some (.scr ns)::ws) (some (.ref a)::vs) fp
 |pen {a:Addr}{ws:DSt}{vs:St}{fp:List Addr} (r:H a=some (zax a)) (t:Slots H₀ H ws vs fp):Slots H₀ H (some .pen::ws) (some (.ref a)::vs) fp
 |tmp {d:D}{v:V}{ws:DSt}{vs:St}{fp:List Addr} (r:RepN K H d v) (t:Slots H₀ H ws vs fp):Slots H₀ H (some (.tmp d)::ws) (some v::vs) fp
 |own {o:O}{v:V}{f:List Addr}{ws:DSt}{vs:St}{fp:List Addr} (r:RepO K H o v f) (t:Slots H₀ H ws vs fp):Slots H₀ H (some (.own o)::ws) (some v::vs) (f++fp)
structure DOk(H₀ H:Hp)(σD:DSt)(σ:St):Prop where
 same:Same H₀ H
 slots:∃fp,Slots K H₀ H σD σ fp/\fp.Nodup/\∀a∈fp,H₀ a=none
end
section
variable {K:PySem.W.Frag}{H₀ H H':Hp}{σD:DSt}{σ:St}
theorem RepX.same(s:Same H H'){xs:Str×List (Str×Int)}{v:V}:RepX K H xs v->RepX K H' xs v:=by
 rintro ⟨a,C,od,rfl,n,h,r⟩;refine⟨a,C,od,rfl,n,s _ _ h,?_⟩;rcases r with r |⟨d,e,r⟩
 ·exact .inl r
 ·exact .inr ⟨d,e,s _ _ r⟩
theorem RepD.same(s:Same H H'){xs:List (Key×D)}{v:V}:RepD K H xs v->RepD K H' xs v:=by
 rintro ⟨a,vs,rfl,h,r⟩;exact⟨a,vs,rfl,s _ _ h,r.1,r.2.same s⟩
theorem RepL.same(s:Same H H'){xs:List D}{v:V}:RepL K H xs v->RepL K H' xs v:=by
 rintro ⟨a,vs,rfl,h,r⟩;refine⟨a,vs,rfl,?_,r.same s⟩;rcases h with h |⟨o,h⟩
 ·exact .inl (s _ _ h)
 ·exact .inr ⟨o,s _ _ h⟩
theorem RepT.same(s:Same H H'){d:D}{v:V}:RepT K H d v->RepT K H' d v
 |.inl h=>.inl (h.same s)
 |.inr ⟨xs,e,h⟩=>.inr ⟨xs,e,h.same s⟩
theorem Rep.top{d:D}{v:V}(h:Rep K H d v):RepT K H d v:=.inl h
theorem RepT.list{xs:List D}{v:V}(h:RepT K H (.list xs) v):RepL K H xs v:=by
 rcases h with h |⟨ys,e,h⟩
 ·cases h with
  |lst h r=>exact⟨_,_,rfl,.inr ⟨_,h⟩,r⟩
 ·cases e;exact h
theorem RepL.sq{xs:List D}{v:V}(h:RepL K H xs v):∃a vs,v=.ref a/\SqL K H a vs/\Reps K H xs vs:=by
 obtain⟨a,vs,rfl,h,r⟩:=h;exact⟨a,vs,rfl,.inl h,r⟩
theorem RepT.rep{d:D}{v:V}(h:RepT K H d v)(n:∀xs,d ≠ .list xs):Rep K H d v:=by
 rcases h with h |⟨ys,e,_⟩
 ·exact h
 ·exact absurd e (n ys)
theorem Nst.len:∀{xss:List (List D)}{as:List Addr},Nst K H xss as->as.length=xss.length
 |[],[],_=>rfl
 |_::_,_::_,h=>by rw[List.length_cons,List.length_cons,Nst.len h.2]
theorem Nst.live:∀{xss:List (List D)}{as:List Addr},Nst K H xss as->∀b∈as,∃vs,H b=some (.lst vs)
 |[],[],_,b,hb=>by cases hb
 |_::_,_::_,h,b,hb=>by
  rcases List.mem_cons.mp hb with rfl|hb
  ·obtain⟨vs,e,_⟩:=h.1;exact⟨vs,e⟩
  ·exact Nst.live h.2 b hb
theorem Nst.keep(p:Pers H H'):∀{xss:List (List D)}{as:List Addr},(∀a∈as,∀u,H a=some u->H' a=some u)->Nst K H xss as->Nst K H' xss as
 |[],[],_,_=>trivial
 |_::_,b::_,k,h=>by
  obtain⟨⟨vs,e,r⟩,t⟩:=h;exact⟨⟨vs,k b List.mem_cons_self _ e,r.mono p⟩,Nst.keep p (λa ha=>k a (List.mem_cons_of_mem _ ha)) t⟩
theorem InsR.live{c:Str}:∀{fss:List (List (Str×D))}{ps:List (Addr×Addr)},InsR K H c fss ps->∀b∈fpI ps,∃u,H b=some u/\u.per=false
 |[],[],_,b,hb=>nomatch hb
 |[],_::_,h,_,_=>h.elim
 |_::_,[],h,_,_=>h.elim
 |fs::fss,p::ps,h,b,hb=>by
  obtain⟨⟨C,fv,_,e1,e2,_⟩,t⟩:=h;rcases List.mem_cons.mp hb with rfl|hb
  ·exact⟨_,e1,rfl⟩
  ·rcases List.mem_cons.mp hb with rfl|hb
   ·exact⟨_,e2,rfl⟩
   ·exact InsR.live t b hb
theorem InsR.keep{c:Str}(p:Pers H H'):∀{fss:List (List (Str×D))}{ps:List (Addr×Addr)},(∀a∈fpI ps,∀u,H a=some u->H' a=some u)->InsR K H c fss ps->InsR K H' c fss ps
 |[],[],_,_=>trivial
 |[],_::_,_,h=>h.elim
 |_::_,[],_,h=>h.elim
 |fs::fss,q::ps,k,h=>by
  obtain⟨⟨C,fv,n,e1,e2,e3,r⟩,t⟩:=h;exact⟨⟨C,fv,n,k _ List.mem_cons_self _ e1,k _ (List.mem_cons_of_mem _ List.mem_cons_self) _ e2,e3,r.mono p⟩,InsR.keep p (λa ha=>k a (List.mem_cons_of_mem _ (List.mem_cons_of_mem _ ha))) t⟩
theorem InsR.fp{c:Str}:∀{fss:List (List (Str×D))}{ps qs:List (Addr×Addr)},InsR K H c fss ps->InsR K H c fss qs->ps.map (λp=>V.ref p.1)=qs.map (λp=>V.ref p.1)->ps=qs
 |[],[],[],_,_,_=>rfl
 |[],_::_,_,h,_,_=>h.elim
 |[],[],_::_,_,h,_=>h.elim
 |_::_,[],_,h,_,_=>h.elim
 |_::_,_::_,[],_,h,_=>h.elim
 |fs::fss,p::ps,q::qs,h,g,e=>by
  obtain⟨⟨C,fv,_,e1,_⟩,t⟩:=h;obtain⟨⟨C2,fv2,_,e2,_⟩,t2⟩:=g;rw[List.map_cons,List.map_cons,List.cons.injEq]at e;have e0:p.1=q.1:=V.ref.inj e.1;rw[<-e0,e1]at e2;have e4:=Option.some.inj e2;have e5:p.2=q.2:=by injection e4
  have e3:p=q:=Prod.ext e0 e5;rw[e3,InsR.fp t t2 e.2]
theorem MxR.ind{P:List Mx->List V->List Addr->Prop}(n:P [] [] [])(hv:∀d ms u us bs,Rep K H d u->MxR K H ms us bs->P ms us bs->P (.v d::ms) (u::us) bs)
  (hl:∀xs ms u us b bs,u=.ref b->(∃vs,H b=some (.lst vs)/\Reps K H xs vs)->MxR K H ms us bs->P ms us bs->P (.l xs::ms) (u::us) (b::bs)) {ms:List Mx}{us:List V}{bs:List Addr} (h:MxR K H ms us bs):P ms us bs:=by
 induction ms generalizing us bs with
 |nil=>
  cases us with
  |nil=>
   cases bs with
   |nil=>exact n
   |cons b bs=>exact h.elim
  |cons u us=>exact h.elim
 |cons m ms ih=>
  cases m with
  |v d=>
   cases us with
   |nil=>exact h.elim
   |cons u us=>exact hv _ _ _ _ _ h.1 h.2 (ih h.2)
  |l xs=>
   cases us with
   |nil=>exact h.elim
   |cons u us=>
    cases bs with
    |nil=>exact h.elim
    |cons b bs=>exact hl _ _ _ _ _ _ h.1 h.2.1 h.2.2 (ih h.2.2)
theorem MxR.live{ms:List Mx}{us:List V}{bs:List Addr}(h:MxR K H ms us bs):∀b∈bs,∃vs,H b=some (.lst vs) :=
 h.ind (P:=λ_ _ bs=>∀b∈bs,∃vs,H b=some (.lst vs)) (λ_ hb=>nomatch hb) (λ_ _ _ _ _ _ _ j=>j) λxs ms u us c bs _ l _ j b hb=>by
  rcases List.mem_cons.mp hb with rfl|hb
  ·obtain⟨vs,e,_⟩:=l;exact⟨vs,e⟩
  ·exact j b hb
theorem MxR.keep(p:Pers H H'){ms:List Mx}{us:List V}{bs:List Addr}(k:∀a∈bs,∀u,H a=some u->H' a=some u)(h:MxR K H ms us bs):MxR K H' ms us bs :=
 h.ind (P:=λms us bs=>(∀a∈bs,∀u,H a=some u->H' a=some u)->MxR K H' ms us bs) (λ_=>trivial) (λ_ _ _ _ _ r _ j k=>⟨r.mono p,j k⟩) (λxs ms u us b bs e l _ j k=>by
  obtain⟨vs,e1,r⟩:=l;exact⟨e,⟨vs,k b List.mem_cons_self _ e1,r.mono p⟩,j λa ha=>k a (List.mem_cons_of_mem _ ha)⟩) k
theorem MxR.fp{H2:Hp}{ms:List Mx}{us:List V}{bs cs:List Addr}(h:MxR K H ms us bs):MxR K H2 ms us cs->bs=cs :=
 h.ind (P:=λms us bs=>∀cs,MxR K H2 ms us cs->bs=cs) (λcs g=>by
  cases cs with
  |nil=>rfl
  |cons=>exact g.elim) (λ_ _ _ _ _ _ _ j cs g=>j cs g.2) (λxs ms u us b bs e _ _ j cs g=>by
  cases cs with
  |nil=>exact g.elim
  |cons c cs=>
   have:=e.symm.trans g.1
   cases this;rw[j cs g.2.2]) cs
theorem MxR.len{ms:List Mx}{us:List V}{bs:List Addr}(h:MxR K H ms us bs):ms.length=us.length :=
 h.ind (P:=λms us _=>ms.length=us.length) rfl (λ_ _ _ _ _ _ _ j=>congrArg (·+1) j) λ_ _ _ _ _ _ _ _ _ j=>congrArg (·+1) j
theorem RepO.live{o:O}{v:V}{f:List Addr}(h:RepO K H o v f):∀a∈f,∃u,H a=some u/\u.per=false:=by
 induction o with
 |anc a o ih=>exact ih h.2
 |tk ks=>
  obtain⟨a,rfl,rfl,e⟩:=h;intro b hb
  cases hb
 |insL c fss=>
  obtain⟨a,ps,rfl,rfl,e,r⟩:=h;intro b hb;rcases List.mem_cons.mp hb with rfl|hb
  ·exact⟨_,e,rfl⟩
  ·exact r.live b hb
 |fzT ks=>
  obtain⟨a,o,vs,rfl,rfl,e,r⟩:=h;intro b hb
  cases hb
 |dcT ks=>
  obtain⟨a,vs,rfl,rfl,e,r⟩:=h;intro b hb;rw[List.mem_singleton.mp hb];exact⟨_,e,rfl⟩
 |mix ms=>
  obtain⟨a,us,bs,rfl,rfl,e,m⟩:=h;intro b hb;rcases List.mem_cons.mp hb with rfl|hb
  ·exact⟨_,e,rfl⟩
  ·obtain⟨vs,e2⟩:=m.live b hb;exact⟨_,e2,rfl⟩
 |ins c fs=>
  obtain⟨a,dx,C,fv,rfl,rfl,_,e1,e2,_⟩:=h;intro b hb;simp only[List.mem_cons,List.not_mem_nil,or_false]at hb;rcases hb with rfl|rfl
  ·exact⟨_,e1,rfl⟩
  ·exact⟨_,e2,rfl⟩
 |lst xs=>
  obtain⟨a,vs,rfl,rfl,e,r⟩:=h;intro b hb;rw[List.mem_singleton.mp hb];exact⟨_,e,rfl⟩
 |dct ks=>
  obtain⟨a,vs,rfl,rfl,e,r⟩:=h;intro b hb;rw[List.mem_singleton.mp hb];exact⟨_,e,rfl⟩
 |nst xss ds=>
  obtain⟨a,as,us,rfl,rfl,e,n,r⟩:=h;intro b hb;rcases List.mem_cons.mp hb with rfl|hb
  ·exact⟨_,e,rfl⟩
  ·obtain⟨vs,e2⟩:=n.live b hb;exact⟨_,e2,rfl⟩
theorem RepO.keep{o:O}{v:V}{f:List Addr}(p:Pers H H')(k:∀a∈f,∀u,H a=some u->H' a=some u)(h:RepO K H o v f):RepO K H' o v f:=by
 induction o with
 |anc a o ih=>exact⟨h.1,ih h.2⟩
 |tk ks=>
  obtain⟨a,rfl,rfl,e⟩:=h;exact⟨a,rfl,rfl,p _ _ e rfl⟩
 |insL c fss=>
  obtain⟨a,ps,rfl,rfl,e,r⟩:=h;exact⟨a,ps,rfl,rfl,k a List.mem_cons_self _ e,r.keep p λb hb=>k b (List.mem_cons_of_mem _ hb)⟩
 |fzT ks=>
  obtain⟨a,o,vs,rfl,rfl,e,r⟩:=h;exact⟨a,o,vs,rfl,rfl,p _ _ e rfl,r.1,r.2.mono p⟩
 |dcT ks=>
  obtain⟨a,vs,rfl,rfl,e,r⟩:=h;exact⟨a,vs,rfl,rfl,k a (by simp) _ e,r.1,r.2.mono p⟩
 |mix ms=>
  obtain⟨a,us,bs,rfl,rfl,e,m⟩:=h;exact⟨a,us,bs,rfl,rfl,k a List.mem_cons_self _ e,m.keep p λb hb=>k b (List.mem_cons_of_mem _ hb)⟩
 |ins c fs=>
  obtain⟨a,dx,C,fv,rfl,rfl,n,e1,e2,e3,r⟩:=h;exact⟨a,dx,C,fv,rfl,rfl,n,k a (by simp) _ e1,k dx (by simp) _ e2,e3,r.mono p⟩
 |lst xs=>
  obtain⟨a,vs,rfl,rfl,e,r⟩:=h;exact⟨a,vs,rfl,rfl,k a (by simp) _ e,r.mono p⟩
 |dct ks=>
  obtain⟨a,vs,rfl,rfl,e,r⟩:=h;exact⟨a,vs,rfl,rfl,k a (by simp) _ e,r.1,r.2.mono p⟩
 |nst xss ds=>
  obtain⟨a,as,us,rfl,rfl,e,n,r⟩:=h;exact⟨a,as,us,rfl,rfl,k a List.mem_cons_self _ e,n.keep p λb hb=>k b (List.mem_cons_of_mem _ hb),r.mono p⟩
theorem Slots.live{fp:List Addr}(h:Slots K H₀ H σD σ fp):∀a∈fp,∃u,H a=some u/\u.per=false:=by
 induction h with
 |nil=>intro a ha;cases ha
 |none _ ih=>exact ih
 |val _ _ ih=>exact ih
 |vw _ _ ih=>exact ih
 |vd _ _ ih=>exact ih
 |exc _ _ ih=>exact ih
 |scr _ _ ih=>exact ih
 |pen _ _ ih=>exact ih
 |tmp _ _ ih=>exact ih
 |own r _ ih=>
  intro a ha;rcases List.mem_append.mp ha with z|z
  ·exact r.live a z
  ·exact ih a z
theorem Slots.keep{fp:List Addr}(p:Pers H H')(kn:∀{d:D}{v:V},RepN K H d v->RepN K H' d v)(k:∀a∈fp,∀u,H a=some u->H' a=some u)(h:Slots K H₀ H σD σ fp):Slots K H₀ H' σD σ fp:=by
 induction h with
 |nil=>exact .nil
 |none _ ih=>exact .none (ih k)
 |val r _ ih=>exact .val (r.mono p) (ih k)
 |vw r _ ih=>exact .vw r (ih k)
 |vd r _ ih=>exact .vd r (ih k)
 |exc r _ ih=>exact .exc r (ih k)
 |scr r _ ih=>exact .scr r (ih k)
 |pen r _ ih=>exact .pen (p _ _ r rfl) (ih k)
 |tmp r _ ih=>exact .tmp (kn r) (ih k)
 |own r _ ih=>exact .own (r.keep p λa ha=>k a (List.mem_append_left _ ha)) (ih λa ha=>k a (List.mem_append_right _ ha))
theorem Slots.keepC{fp:List Addr}(p:Pers H H')(k:∀a∈fp,∀u,H a=some u->H' a=some u)(h:Slots K H₀ H σD σ fp):Slots K H₀ H' (clr σD) σ fp:=by
 induction h with
 |nil=>exact .nil
 |none _ ih=>exact .none (ih k)
 |val r _ ih=>exact .val (r.mono p) (ih k)
 |vw r _ ih=>exact .vw r (ih k)
 |vd r _ ih=>exact .vd r (ih k)
 |exc r _ ih=>exact .exc r (ih k)
 |scr r _ ih=>exact .scr r (ih k)
 |pen r _ ih=>exact .pen (p _ _ r rfl) (ih k)
 |tmp r _ ih=>exact .none (ih k)
 |own r _ ih=>exact .own (r.keep p λa ha=>k a (List.mem_append_left _ ha)) (ih λa ha=>k a (List.mem_append_right _ ha))
theorem Slots.length{fp:List Addr}(h:Slots K H₀ H σD σ fp):σD.length=σ.length:=by
 induction h with
 |nil=>rfl
 |none _ ih=>simp[ih]
 |val _ _ ih=>simp[ih]
 |vw _ _ ih=>simp[ih]
 |vd _ _ ih=>simp[ih]
 |exc _ _ ih=>simp[ih]
 |scr _ _ ih=>simp[ih]
 |pen _ _ ih=>simp[ih]
 |tmp _ _ ih=>simp[ih]
 |own _ _ ih=>simp[ih]
theorem DOk.after(s:Same H H')(h:DOk K H₀ H σD σ):DOk K H₀ H' σD σ:=by
 obtain⟨s0,fp,sl,nd,fr⟩:=h;exact⟨s0.trans s,fp,sl.keep s.pers (λh=>h.same s) λa _ u e=>s a u e,nd,fr⟩
theorem DOk.len(h:DOk K H₀ H σD σ):σD.length=σ.length:=let ⟨_,_,sl,_⟩:=h;sl.length
theorem Slots.get{fp:List Addr}(h:Slots K H₀ H σD σ fp):∀{i:Nat}{w:W},σD[i]?=some (some w)->∃v,σ[i]?=some (some v)/\match w with
  |.val d=>Rep K H d v
  |.vw xs=>RepL K H₀ xs v
  |.vd xs=>RepD K H₀ xs v
  |.exc xs=>RepX K H₀ xs v
  |.scr ns=>∃a,v=.ref a/\SqL K H₀ a (ns.map V.int)
  |.pen=>∃a,v=.ref a/\H a=some (zax a)
  |.tmp d=>RepN K H d v
  |.own o=>∃f,RepO K H o v f/\∀a∈f,a∈fp:=by
 induction h with
 |nil=>intro i w e;simp at e
 |none _ ih=>
  intro i w e
  cases i with
  |zero=>simp at e
  |succ i=>exact ih (by simpa using e)
 |val r _ ih=>
  intro i w e
  cases i with
  |zero=>simp at e;subst e;exact⟨_,rfl,r⟩
  |succ i=>exact ih (by simpa using e)
 |vw r _ ih=>
  intro i w e
  cases i with
  |zero=>simp at e;subst e;exact⟨_,rfl,r⟩
  |succ i=>exact ih (by simpa using e)
 |vd r _ ih=>
  intro i w e
  cases i with
  |zero=>simp at e;subst e;exact⟨_,rfl,r⟩
  |succ i=>exact ih (by simpa using e)
 |exc r _ ih=>
  intro i w e
  cases i with
  |zero=>simp at e;subst e;exact⟨_,rfl,r⟩
  |succ i=>exact ih (by simpa using e)
 |scr r _ ih=>
  intro i w e
  cases i with
  |zero=>simp at e;subst e;exact⟨_,rfl,_,rfl,r⟩
  |succ i=>exact ih (by simpa using e)
 |pen r _ ih=>
  intro i w e
  cases i with
  |zero=>simp at e;subst e;exact⟨_,rfl,_,rfl,r⟩
  |succ i=>exact ih (by simpa using e)
 |tmp r _ ih=>
  intro i w e
  cases i with
  |zero=>simp at e;subst e;exact⟨_,rfl,r⟩
  |succ i=>exact ih (by simpa using e)
 |own r _ ih=>
  intro i w e
  cases i with
  |zero=>simp at e;subst e;exact⟨_,rfl,_,r,λa ha=>List.mem_append_left _ ha⟩
  |succ i=>
   obtain⟨v,e1,e2⟩:=ih (by simpa using e);refine⟨v,e1,?_⟩
   cases w with
   |val d=>exact e2
   |vw xs=>exact e2
   |vd xs=>exact e2
   |exc xs=>exact e2
   |scr ns=>exact e2
   |pen=>exact e2
   |tmp d=>exact e2
   |own o=>obtain⟨f,r,m⟩:=e2;exact⟨f,r,λa ha=>List.mem_append_right _ (m a ha)⟩
theorem DOk.val(h:DOk K H₀ H σD σ){i:Nat}{d:D}(e:σD[i]?=some (some (.val d))):∃v,σ[i]?=some (some v)/\Rep K H d v:=let ⟨_,_,sl,_⟩:=h;sl.get e
theorem DOk.vw(h:DOk K H₀ H σD σ){i:Nat}{xs:List D}(e:σD[i]?=some (some (.vw xs))):∃v,σ[i]?=some (some v)/\RepL K H xs v:=by
 obtain⟨s,_,sl,_⟩:=h;obtain⟨v,e1,e2⟩:=sl.get e;exact⟨v,e1,RepL.same s e2⟩
theorem DOk.vd(h:DOk K H₀ H σD σ){i:Nat}{xs:List (Key×D)}(e:σD[i]?=some (some (.vd xs))):∃v,σ[i]?=some (some v)/\RepD K H xs v:=by
 obtain⟨s,_,sl,_⟩:=h;obtain⟨v,e1,e2⟩:=sl.get e;exact⟨v,e1,RepD.same s e2⟩
theorem DOk.exc(h:DOk K H₀ H σD σ){i:Nat}{xs:Str×List (Str×Int)}(e:σD[i]?=some (some (.exc xs))):∃v,σ[i]?=some (some v)/\RepX K H xs v:=by
 obtain⟨s,_,sl,_⟩:=h;obtain⟨v,e1,e2⟩:=sl.get e;exact⟨v,e1,RepX.same s e2⟩
theorem DOk.scr(h:DOk K H₀ H σD σ){i:Nat}{ns:List Int}(e:σD[i]?=some (some (.scr ns))):∃a,σ[i]?=some (some (.ref a))/\SqL K H a (ns.map V.int):=by
 obtain⟨s,_,sl,_⟩:=h;obtain⟨v,e1,a,rfl,e2⟩:=sl.get e;exact⟨a,e1,s.seq e2⟩
theorem DOk.pen(h:DOk K H₀ H σD σ){i:Nat}(e:σD[i]?=some (some .pen)):∃a,σ[i]?=some (some (.ref a))/\H a=some (zax a):=by
 obtain⟨s,_,sl,_⟩:=h;obtain⟨v,e1,a,rfl,e2⟩:=sl.get e;exact⟨a,e1,e2⟩
theorem DOk.tmp(h:DOk K H₀ H σD σ){i:Nat}{d:D}(e:σD[i]?=some (some (.tmp d))):∃v,σ[i]?=some (some v)/\RepN K H d v:=let ⟨_,_,sl,_⟩:=h;sl.get e
theorem DOk.ownL(h:DOk K H₀ H σD σ){i:Nat}{xs:List D}(e:σD[i]?=some (some (.own (.lst xs)))):∃a vs,σ[i]?=some (some (.ref a))/\H a=some (.lst vs)/\Reps K H xs vs/\H₀ a=none:=by
 obtain⟨s,fp,sl,nd,fr⟩:=h;obtain⟨v,e1,f,⟨a,vs,rfl,rfl,e2,r⟩,m⟩:=sl.get e;exact⟨a,vs,e1,e2,r,fr a (m a (by simp))⟩
theorem DOk.ownD(h:DOk K H₀ H σD σ){i:Nat}{xs:List (Key×D)}(e:σD[i]?=some (some (.own (.dct xs)))):∃a vs,σ[i]?=some (some (.ref a))/\H a=some (.dK vs)/\RepKV K H xs vs/\H₀ a=none:=by
 obtain⟨s,fp,sl,nd,fr⟩:=h;obtain⟨v,e1,f,⟨a,vs,rfl,rfl,e2,r⟩,m⟩:=sl.get e;exact⟨a,vs,e1,e2,r,fr a (m a (by simp))⟩
theorem Slots.set{fp f:List Addr}(h:Slots K H₀ H σD σ fp){w:Option W}{v:Option V}(hw:∀{ws:DSt}{vs:St}{g:List Addr},Slots K H₀ H ws vs g->Slots K H₀ H (w::ws) (v::vs) (f++g)):
  ∀(i:Nat),i<σD.length->∃g g',Slots K H₀ H (σD.set i w) (σ.set i v) (g++(f++g'))/\(g++g').Sublist fp:=by
 induction h with
 |nil=>intro i hi;exact absurd hi (Nat.not_lt_zero _)
 |none t ih=>
  intro i hi
  cases i with
  |zero=>exact⟨[],_,hw t,List.Sublist.refl _⟩
  |succ i=>obtain⟨g,g',e,s⟩:=ih i (Nat.lt_of_succ_lt_succ hi);exact⟨g,g',.none e,s⟩
 |val r t ih=>
  intro i hi
  cases i with
  |zero=>exact⟨[],_,hw t,List.Sublist.refl _⟩
  |succ i=>obtain⟨g,g',e,s⟩:=ih i (Nat.lt_of_succ_lt_succ hi);exact⟨g,g',.val r e,s⟩
 |vw r t ih=>
  intro i hi
  cases i with
  |zero=>exact⟨[],_,hw t,List.Sublist.refl _⟩
  |succ i=>obtain⟨g,g',e,s⟩:=ih i (Nat.lt_of_succ_lt_succ hi);exact⟨g,g',.vw r e,s⟩
 |vd r t ih=>
  intro i hi
  cases i with
  |zero=>exact⟨[],_,hw t,List.Sublist.refl _⟩
  |succ i=>obtain⟨g,g',e,s⟩:=ih i (Nat.lt_of_succ_lt_succ hi);exact⟨g,g',.vd r e,s⟩
 |exc r t ih=>
  intro i hi
  cases i with
  |zero=>exact⟨[],_,hw t,List.Sublist.refl _⟩
  |succ i=>obtain⟨g,g',e,s⟩:=ih i (Nat.lt_of_succ_lt_succ hi);exact⟨g,g',.exc r e,s⟩
 |scr r t ih=>
  intro i hi
  cases i with
  |zero=>exact⟨[],_,hw t,List.Sublist.refl _⟩
  |succ i=>obtain⟨g,g',e,s⟩:=ih i (Nat.lt_of_succ_lt_succ hi);exact⟨g,g',.scr r e,s⟩
 |pen r t ih=>
  intro i hi
  cases i with
  |zero=>exact⟨[],_,hw t,List.Sublist.refl _⟩
  |succ i=>obtain⟨g,g',e,s⟩:=ih i (Nat.lt_of_succ_lt_succ hi);exact⟨g,g',.pen r e,s⟩
 |tmp r t ih=>
  intro i hi
  cases i with
  |zero=>exact⟨[],_,hw t,List.Sublist.refl _⟩
  |succ i=>obtain⟨g,g',e,s⟩:=ih i (Nat.lt_of_succ_lt_succ hi);exact⟨g,g',.tmp r e,s⟩
 |@own o v' f' ws vs fp' r t ih=>
  intro i hi
  cases i with
  |zero=>exact⟨[],_,hw t,List.sublist_append_right _ _⟩
  |succ i=>
   obtain⟨g,g',e,s⟩:=ih i (Nat.lt_of_succ_lt_succ hi);refine⟨f'++g,g',?_,?_⟩
   ·rw[List.append_assoc];exact .own r e
   ·rw[List.append_assoc];exact(List.Sublist.refl _).append s
theorem DOk.put(h:DOk K H₀ H σD σ){w:Option W}{v:Option V}(hw:∀{ws:DSt}{vs:St}{g:List Addr},Slots K H₀ H ws vs g->Slots K H₀ H (w::ws) (v::vs) g)(i:Nat):DOk K H₀ H (σD.set i w) (σ.set i v):=by
 obtain⟨s,fp,sl,nd,fr⟩:=h
 by_cases hi:i<σD.length
 ·obtain⟨g,g',e,sb⟩:=sl.set (f:=[]) hw i hi;rw[List.nil_append]at e;exact⟨s,_,e,sb.nodup nd,λa ha=>fr a (sb.subset ha)⟩
 ·rw[List.set_eq_of_length_le (by omega),List.set_eq_of_length_le (by rw[<-sl.length];omega)];exact⟨s,fp,sl,nd,fr⟩
theorem DOk.setV(h:DOk K H₀ H σD σ){d:D}{v:V}(r:Rep K H d v)(i:Nat):DOk K H₀ H (σD.set i (some (.val d))) (σ.set i (some v)):=h.put (.val r) i
theorem DOk.setN(h:DOk K H₀ H σD σ)(v:Option V)(i:Nat):DOk K H₀ H (σD.set i none) (σ.set i v):=h.put (.none) i
theorem DOk.setO{H1:Hp}(h:DOk K H₀ H1 σD σ)(s1:Same H1 H){a:Addr}{vs:List V}{xs:List D}(n:H1 a=none)(e:H a=some (.lst vs))(r:Reps K H xs vs)(i:Nat):DOk K H₀ H (σD.set i (some (.own (.lst xs)))) (σ.set i (some (.ref a))):=by
 obtain⟨s,fp,sl,nd,fr⟩:=id h;have lv:∀b∈fp,b≠a:=λb hb z=>by
  obtain⟨u,e1,_⟩:=sl.live b hb;rw[z,n]at e1;cases e1
 obtain⟨s',fp',sl',_⟩:=id (h.after s1);have sl2:Slots K H₀ H σD σ fp:=sl.keep s1.pers (λh=>h.same s1) λb _ u e=>s1 b u e
 by_cases hi:i<σD.length
 ·obtain⟨g,g',e',sb⟩:=sl2.set (f:=[a]) (w:=some (.own (.lst xs))) (v:=some (.ref a)) (λt=>.own ⟨a,vs,rfl,rfl,e,r⟩ t) i hi;refine⟨s',_,e',?_,λb hb=>?_⟩
  ·have nd2:=sb.nodup nd;rw[List.nodup_append]at nd2 ⊢;refine⟨nd2.1,?_,λx hx y hy=>?_⟩
   ·rw[List.singleton_append,List.nodup_cons];exact⟨λz=>lv a (sb.subset (List.mem_append_right _ z)) rfl,nd2.2.1⟩
   ·rcases List.mem_append.mp hy with z|z
    ·rw[List.mem_singleton.mp z];exact lv x (sb.subset (List.mem_append_left _ hx))
    ·exact nd2.2.2 x hx y z
  ·rcases List.mem_append.mp hb with z|z
   ·exact fr b (sb.subset (List.mem_append_left _ z))
   ·rcases List.mem_append.mp z with z|z
    ·rw[List.mem_singleton.mp z]
     cases q:H₀ a with
     |none=>rfl
     |some u=>rw[s a u q]at n;cases n
    ·exact fr b (sb.subset (List.mem_append_right _ z))
 ·rw[List.set_eq_of_length_le (by omega),List.set_eq_of_length_le (by rw[<-sl2.length];omega)];exact⟨s',fp,sl2,nd,fr⟩
theorem Slots.write{fp:List Addr}(h:Slots K H₀ H σD σ fp)(nd:fp.Nodup){i:Nat}{xs ys:List D}{a:Addr}{vs:List V}(e:σD[i]?=some (some (.own (.lst xs))))(ev:σ[i]?=some (some (.ref a)))(ea:∃zs,H a=some (.lst zs))(r:Reps K H ys vs):
  Slots K H₀ (upd H a (.lst vs)) (clr (σD.set i (some (.own (.lst ys))))) σ fp:=by
 have ps:Pers H (upd H a (.lst vs)):=λb o hb hp=>by
  obtain⟨zs,ea⟩:=ea;rw[zv (λz=>by rw[z,ea]at hb;cases hb;cases hp)];exact hb
 induction h generalizing i with
 |nil=>simp at e
 |none t ih=>
  cases i with
  |zero=>simp at e
  |succ i=>exact .none (ih nd (by simpa using e) (by simpa using ev))
 |val q t ih=>
  cases i with
  |zero=>simp at e
  |succ i=>exact .val (q.mono ps) (ih nd (by simpa using e) (by simpa using ev))
 |vw q t ih=>
  cases i with
  |zero=>simp at e
  |succ i=>exact .vw q (ih nd (by simpa using e) (by simpa using ev))
 |vd q t ih=>
  cases i with
  |zero=>simp at e
  |succ i=>exact .vd q (ih nd (by simpa using e) (by simpa using ev))
 |exc q t ih=>
  cases i with
  |zero=>simp at e
  |succ i=>exact .exc q (ih nd (by simpa using e) (by simpa using ev))
 |scr q t ih=>
  cases i with
  |zero=>simp at e
  |succ i=>exact .scr q (ih nd (by simpa using e) (by simpa using ev))
 |pen q t ih=>
  cases i with
  |zero=>simp at e
  |succ i=>exact .pen (ps _ _ q rfl) (ih nd (by simpa using e) (by simpa using ev))
 |tmp q t ih=>
  cases i with
  |zero=>simp at e
  |succ i=>exact .none (ih nd (by simpa using e) (by simpa using ev))
 |@own o v f ws wvs fp' q t ih=>
  rw[List.nodup_append]at nd
  cases i with
  |zero=>
   simp at e ev;subst e ev;obtain⟨b,zs,eb,rfl,hb,rb⟩:=q
   cases eb;refine .own ⟨a,vs,rfl,rfl,zx,r.mono ps⟩ (t.keepC ps λc hc u hu=>?_);rw[zv (λz=>nd.2.2 a (by simp) c hc z.symm)];exact hu
  |succ i=>
   have e':ws[i]?=some (some (.own (.lst xs))):=by simpa using e
   have ev':wvs[i]?=some (some (.ref a)):=by simpa using ev
   refine .own (q.keep ps λc hc u hu=>?_) (ih nd.2.1 e' ev');obtain⟨v',e1,f',⟨b,zs,rfl,rfl,hb,rb⟩,m⟩:=t.get e';rw[ev']at e1
   cases e1;rw[zv (λz=>nd.2.2 c hc a (m a (by simp)) z)];exact hu
theorem wn{a:Addr}{o o':HO}(e:H a=some o)(p:o.per=false):Pers H (upd H a o'):=λb u hb hp=>by
 rw[zv (λz=>by rw[z,e]at hb;cases hb;rw[p]at hp;cases hp)];exact hb
theorem DOk.write(h:DOk K H₀ H σD σ){i:Nat}{xs ys:List D}{a:Addr}{vs zs:List V}(e:σD[i]?=some (some (.own (.lst xs))))(ev:σ[i]?=some (some (.ref a)))(ea:H a=some (.lst zs))(r:Reps K H ys vs):DOk K H₀ (upd H a (.lst vs)) (clr (σD.set i (some (.own (.lst ys))))) σ:=by
 obtain⟨a',_,e1,_,_,n⟩:=h.ownL e;rw[ev]at e1
 cases e1;obtain⟨s,fp,sl,nd,fr⟩:=h;refine⟨λb o hb=>?_,fp,sl.write nd e ev ⟨_,ea⟩ r,nd,fr⟩;rw[zv (λz=>by rw[z,n]at hb;cases hb)];exact s b o hb
end
section
variable {X:Cx}{pins:List (Addr×Obj)}{σ:St}{H:Hp}{s:Shared}{a:Addr}
theorem Inv.frz(I:Inv X pins σ H s){vs:List V}(h:H a=some (.lst vs)):∃o,Inv X pins σ (upd H a (.frz o (.lst vs))) s:=by
 obtain⟨z,its,n,r,e⟩:=I.hok a _ h;exact⟨_,I.write (h':=s.heap) (t':=s.toks) (x:=a) (e:=a) (by rw[h];exact trivial) (.inl rfl) (λb u _ q=>q) ⟨_,e⟩ ⟨e,z,its,n,r,e⟩⟩
theorem zjp{P:Program}{w:World}{h:Heap}{x y z:Int}{tx ty tz:Tok}{n:Nat}(e:h.get? a=some { cls:=.type "list",data:=.seq #[.int x tx,.int y ty,.int z tz] n }):ObjOk P w H h a (zax a) :=
 ⟨⟨x,y,z,tx,ty,tz,n,e⟩,⟨_,e⟩,λh1 h2 ⟨x,y,z,tx,ty,tz,n,e⟩ k=>⟨x,y,z,tx,ty,tz,n,k _ e⟩⟩
theorem Inv.toPen(I:Inv X pins σ H s){x y z:Int}(h:H a=some (.lst [.int x,.int y,.int z])):Inv X pins σ (upd H a (zax a)) s:=by
 obtain⟨zz,its,n,r,e⟩:=I.hok a _ h
 cases r with
 |cons r1 r=>
  cases r with
  |cons r2 r=>
   cases r with
   |cons r3 r=>
    cases r;obtain⟨t1,rfl⟩:=r1;obtain⟨t2,rfl⟩:=r2;obtain⟨t3,rfl⟩:=r3;exact I.write (h':=s.heap) (t':=s.toks) (x:=a) (e:=a) (by rw[h];exact trivial) (.inl rfl) (λb u _ q=>q) ⟨_,e⟩ (zjp e)
end
abbrev DTE:=DSt->(D->Prop)->Prop
abbrev DTF:=DSt->(List D->Prop)->Prop
abbrev DTT:=DSt->(Bool->Prop)->Prop
abbrev DTP:=DSt->(List W->Prop)->Prop
def DEnd(X:Cx)(pins:List (Addr×Obj))(σ:St)(H:Hp)(Q:D->Prop)(u:Value)(s':Shared):Prop:=∃v H' d,Inv X pins σ H' s'/\RelV v u/\Same H H'/\Rep X.K H' d v/\Q d
def zq9(X:Cx)(pins:List (Addr×Obj))(σ:St)(H:Hp)(Q:D->Prop)(u:Value)(s':Shared):Prop:=∃v H' d,Inv X pins σ H' s'/\RelV v u/\Same H H'/\RepT X.K H' d v/\Q d
def zci(X:Cx)(pins:List (Addr×Obj))(σ:St)(H:Hp)(Q:List D->Prop)(u:Value)(s':Shared):Prop:=∃a H' vs xs,u=.ref a/\Inv X pins σ H' s'/\Same H H'/\H a=none/\H' a=some (.lst vs)/\Reps X.K H' xs vs/\Q xs
structure DE(X:Cx)(e:Expr)(t:DTE):Prop where
 run:∀(pins:List (Addr×Obj)) (s:Shared) (σ:St) (H H₀:Hp) (σD:DSt) (Q:D->Prop),Inv X pins σ H s->DOk X.K H₀ H σD σ->t σD Q->wpAny (model X.prog X.w) X.A (eval e X.env) (DEnd X pins σ H Q) X.xe s
structure DV(X:Cx)(e:Expr)(t:DTE):Prop where
 run:∀(pins:List (Addr×Obj)) (s:Shared) (σ:St) (H H₀:Hp) (σD:DSt) (Q:D->Prop),Inv X pins σ H s->DOk X.K H₀ H σD σ->t σD Q->wpAny (model X.prog X.w) X.A (eval e X.env) (zq9 X pins σ H Q) X.xe s
structure DF(X:Cx)(e:Expr)(t:DTF):Prop where
 run:∀(pins:List (Addr×Obj)) (s:Shared) (σ:St) (H H₀:Hp) (σD:DSt) (Q:List D->Prop),Inv X pins σ H s->DOk X.K H₀ H σD σ->t σD Q->wpAny (model X.prog X.w) X.A (eval e X.env) (zci X pins σ H Q) X.xe s
def zra(X:Cx)(pins:List (Addr×Obj))(σ:St)(H:Hp)(Q:Bool->Prop)(b:Bool)(s':Shared):Prop:=∃H',Inv X pins σ H' s'/\Same H H'/\Q b
structure DT(X:Cx)(e:Expr)(t:DTT):Prop where
 run:∀(pins:List (Addr×Obj)) (s:Shared) (σ:St) (H H₀:Hp) (σD:DSt) (Q:Bool->Prop),Inv X pins σ H s->DOk X.K H₀ H σD σ->t σD Q->wpAny (model X.prog X.w) X.A (isTrue e X.env (eval e X.env)) (zra X pins σ H Q) X.xe s
structure DWt(X:Cx)(e:Expr)(t:DTT):Prop where
 run:∀(whole:Sem Value) (pins:List (Addr×Obj)) (s:Shared) (σ:St) (H H₀:Hp) (σD:DSt) (Q:Bool->Prop),Inv X pins σ H s->DOk X.K H₀ H σD σ->t σD Q->wpAny (model X.prog X.w) X.A (isTrue e X.env whole) (zra X pins σ H Q) X.xe s
structure DA(X:Cx)(es:List Expr)(t:DTF):Prop where
 run:∀(pos:Pos) (pins:List (Addr×Obj)) (s:Shared) (σ:St) (H H₀:Hp) (σD:DSt) (Q:List D->Prop),Inv X pins σ H s->DOk X.K H₀ H σD σ->t σD Q ->
  wpAny (model X.prog X.w) X.A (spliced (backTo pos (starEach es X.env))) (λus s'=>∃vs H' ds,Inv X pins σ H' s'/\Vals vs us/\Same H H'/\Reps X.K H' ds vs/\Q ds) X.xe s
inductive RepTs(K:PySem.W.Frag)(H:Hp):List D->List V->Prop
 |nil:RepTs K H [] []
 |cons {d:D}{v:V}{ds:List D}{vs:List V} (r:RepT K H d v) (t:RepTs K H ds vs):RepTs K H (d::ds) (v::vs)
theorem RepTs.same{K:PySem.W.Frag}{H H':Hp}(s:Same H H'){ds:List D}{vs:List V}(h:RepTs K H ds vs):RepTs K H' ds vs:=by
 induction h with
 |nil=>exact .nil
 |cons r _ ih=>exact .cons (r.same s) ih
structure DAv(X:Cx)(es:List Expr)(t:DTF):Prop where
 run:∀(pos:Pos) (pins:List (Addr×Obj)) (s:Shared) (σ:St) (H H₀:Hp) (σD:DSt) (Q:List D->Prop),Inv X pins σ H s->DOk X.K H₀ H σD σ->t σD Q ->
  wpAny (model X.prog X.w) X.A (spliced (backTo pos (starEach es X.env))) (λus s'=>∃vs H' ds,Inv X pins σ H' s'/\Vals vs us/\Same H H'/\RepTs X.K H' ds vs/\Q ds) X.xe s
section
variable (K:PySem.W.Frag)
def zxe(H:Hp):W->V->Prop
 |.val d,v=>Rep K H d v
 |.vw xs,v=>RepL K H xs v
 |.vd xs,v=>RepD K H xs v
 |.exc xs,v=>RepX K H xs v
 |.scr ns,v=>∃a,v=.ref a/\SqL K H a (ns.map V.int)
 |.pen,v=>∃a,v=.ref a/\H a=some (zax a)
 |.tmp _,_=>False
 |.own _,_=>False
inductive RepWs(H:Hp):List W->List V->Prop
 |nil:RepWs H [] []
 |cons {w:W}{v:V}{ws:List W}{vs:List V} (r:zxe K H w v) (t:RepWs H ws vs):RepWs H (w::ws) (v::vs)
end
theorem RepWs.length{K:PySem.W.Frag}{H:Hp}{ws:List W}{vs:List V}(h:RepWs K H ws vs):ws.length=vs.length:=by
 induction h with
 |nil=>rfl
 |cons _ _ ih=>simp[ih]
structure DPs(X:Cx)(es:List Expr)(t:DTP):Prop where
 run:∀(pos:Pos) (pins:List (Addr×Obj)) (s:Shared) (σ:St) (H H₀:Hp) (σD:DSt) (Q:List W->Prop),Inv X pins σ H s->DOk X.K H₀ H σD σ->t σD Q ->
  wpAny (model X.prog X.w) X.A (spliced (backTo pos (starEach es X.env))) (λus s'=>∃vs H' ws,Inv X pins σ H' s'/\Vals vs us/\Same H H'/\RepWs X.K H' ws vs/\Q ws) X.xe s
section
variable (K:PySem.W.Frag)
def cnE(t:DTE):TE:=λσ H Q=>∃H₀ σD QD,DOk K H₀ H σD σ/\t σD QD/\∀v H' d,Same H H'->Rep K H' d v->QD d->Q v H'
def cnV(t:DTE):TE:=λσ H Q=>∃H₀ σD QD,DOk K H₀ H σD σ/\t σD QD/\∀v H' d,Same H H'->RepT K H' d v->QD d->Q v H'
def cnF(t:DTF):TE:=λσ H Q=>∃H₀ σD QD,DOk K H₀ H σD σ/\t σD QD/\∀a H' vs xs,Same H H'->H a=none->H' a=some (.lst vs)->Reps K H' xs vs->QD xs->Q (.ref a) H'
def cnT(t:DTT):TT:=λσ H Q=>∃H₀ σD QD,DOk K H₀ H σD σ/\t σD QD/\∀b H',Same H H'->QD b->Q b H'
def cnA(t:DTF):TA:=λσ H Q=>∃H₀ σD QD,DOk K H₀ H σD σ/\t σD QD/\∀vs H' ds,Same H H'->Reps K H' ds vs->QD ds->Q vs H'
def zxf(t:DTF):TA:=λσ H Q=>∃H₀ σD QD,DOk K H₀ H σD σ/\t σD QD/\∀vs H' ds,Same H H'->RepTs K H' ds vs->QD ds->Q vs H'
def cnP(t:DTP):TA:=λσ H Q=>∃H₀ σD QD,DOk K H₀ H σD σ/\t σD QD/\∀vs H' ws,Same H H'->RepWs K H' ws vs->QD ws->Q vs H'
end
section
variable {X:Cx}{e:Expr}{es:List Expr}
theorem DE.pe{t:DTE}(h:DE X e t):PE X e (cnE X.K t):=λpins s σ H Q I zq63=>by obtain⟨H₀,σD,QD,ok,q,k⟩:=zq63;exact thn (h.run pins s σ H H₀ σD QD I ok q) λu s' zq50=>by obtain⟨v,H',d,I',r,sm,rp,qd⟩:=zq50;exact⟨v,H',I',r,k v H' d sm rp qd⟩
theorem DV.pe{t:DTE}(h:DV X e t):PE X e (cnV X.K t):=λpins s σ H Q I zq63=>by obtain⟨H₀,σD,QD,ok,q,k⟩:=zq63;exact thn (h.run pins s σ H H₀ σD QD I ok q) λu s' zq50=>by obtain⟨v,H',d,I',r,sm,rp,qd⟩:=zq50;exact⟨v,H',I',r,k v H' d sm rp qd⟩
theorem DF.pe{t:DTF}(h:DF X e t):PE X e (cnF X.K t):=λpins s σ H Q I zq63=>by obtain⟨H₀,σD,QD,ok,q,k⟩:=zq63;exact thn (h.run pins s σ H H₀ σD QD I ok q) λu s' zq50=>by obtain⟨a,H',vs,xs,eu,I',sm,n,e,rp,qd⟩:=zq50;exact⟨.ref a,H',I',eu,k a H' vs xs sm n e rp qd⟩
theorem DT.pt{t:DTT}(h:DT X e t):PT X e (cnT X.K t):=λpins s σ H Q I zq63=>by obtain⟨H₀,σD,QD,ok,q,k⟩:=zq63;exact thn (h.run pins s σ H H₀ σD QD I ok q) λu s' zq50=>by obtain⟨H',I',sm,qd⟩:=zq50;exact⟨H',I',k u H' sm qd⟩
theorem DA.pa{t:DTF}(h:DA X es t):PA X es (cnA X.K t):=λpos pins s σ H Q I zq65=>by obtain⟨H₀,σD,QD,ok,q,k⟩:=zq65;exact thn (h.run pos pins s σ H H₀ σD QD I ok q) λus s' zq60=>by obtain⟨vs,H',ds,I',r,sm,rp,qd⟩:=zq60;exact⟨vs,H',I',r,k vs H' ds sm rp qd⟩
theorem DAv.pa{t:DTF}(h:DAv X es t):PA X es (zxf X.K t):=λpos pins s σ H Q I zq68=>by obtain⟨H₀,σD,QD,ok,q,k⟩:=zq68;exact thn (h.run pos pins s σ H H₀ σD QD I ok q) λus s' zq63=>by obtain⟨vs,H',ds,I',r,sm,rp,qd⟩:=zq63;exact⟨vs,H',I',r,k vs H' ds sm rp qd⟩
theorem DPs.pa{t:DTP}(h:DPs X es t):PA X es (cnP X.K t):=λpos pins s σ H Q I zq67=>by obtain⟨H₀,σD,QD,ok,q,k⟩:=zq67;exact thn (h.run pos pins s σ H H₀ σD QD I ok q) λus s' zq62=>by obtain⟨vs,H',ws,I',r,sm,rp,qd⟩:=zq62;exact⟨vs,H',I',r,k vs H' ws sm rp qd⟩
theorem DE.of{t:DTE}{t':TE}(h:PE X e t')(k:∀σ H H₀ σD QD,DOk X.K H₀ H σD σ->t σD QD->t' σ H (λv H'=>∃d,Same H H'/\Rep X.K H' d v/\QD d)):DE X e t :=
 ⟨λpins s σ H H₀ σD Q I ok q=>thn (h pins s σ H _ I (k σ H H₀ σD Q ok q)) λu s' zq80=>by obtain⟨v,H',I',r,d,sm,rp,qd⟩:=zq80;exact⟨v,H',d,I',r,sm,rp,qd⟩⟩
theorem DV.of{t:DTE}{t':TE}(h:PE X e t')(k:∀σ H H₀ σD QD,DOk X.K H₀ H σD σ->t σD QD->t' σ H (λv H'=>∃d,Same H H'/\RepT X.K H' d v/\QD d)):DV X e t :=
 ⟨λpins s σ H H₀ σD Q I ok q=>thn (h pins s σ H _ I (k σ H H₀ σD Q ok q)) λu s' zq80=>by obtain⟨v,H',I',r,d,sm,rp,qd⟩:=zq80;exact⟨v,H',d,I',r,sm,rp,qd⟩⟩
theorem DF.of{t:DTF}{t':TE}(h:PE X e t')(k:∀σ H H₀ σD QD,DOk X.K H₀ H σD σ->t σD QD->t' σ H (λv H'=>∃a vs xs,v=.ref a/\Same H H'/\H a=none/\H' a=some (.lst vs)/\Reps X.K H' xs vs/\QD xs)):DF X e t :=
 ⟨λpins s σ H H₀ σD Q I ok q=>thn (h pins s σ H _ I (k σ H H₀ σD Q ok q)) λu s' zq80=>by obtain⟨v,H',I',r,a,vs,xs,ev,sm,n,e,rp,qd⟩:=zq80;exact⟨a,H',vs,xs,by subst ev;exact r,I',sm,n,e,rp,qd⟩⟩
theorem DT.of{t:DTT}{t':TT}(h:PT X e t')(k:∀σ H H₀ σD QD,DOk X.K H₀ H σD σ->t σD QD->t' σ H (λb H'=>Same H H'/\QD b)):DT X e t :=
 ⟨λpins s σ H H₀ σD Q I ok q=>thn (h pins s σ H _ I (k σ H H₀ σD Q ok q)) λu s' zq80=>by obtain⟨H',I',sm,qd⟩:=zq80;exact⟨H',I',sm,qd⟩⟩
theorem DE.dv{t:DTE}(h:DE X e t):DV X e t:=⟨λpins s σ H H₀ σD Q I ok q=>thn (h.run pins s σ H H₀ σD Q I ok q) λu s' zq28=>by obtain⟨v,H',d,I',r,sm,rp,qd⟩:=zq28;exact⟨v,H',d,I',r,sm,rp.top,qd⟩⟩
theorem zex{pins:List (Addr×Obj)}{σ:St}{H H':Hp}{s:Shared}{a:Addr}{vs:List V}{xs:List D}(I:Inv X pins σ H' s)(sm:Same H H')(n:H a=none)(e:H' a=some (.lst vs))(r:Reps X.K H' xs vs):
  ∃H'',Inv X pins σ H'' s/\Same H H''/\Rep X.K H'' (.list xs) (.ref a):=by
 obtain⟨o,J⟩:=I.frz e;refine⟨_,J,λb u hb=>?_,.lst zx (r.mono (wn e rfl))⟩;rw[zv (ym hb n)];exact sm b u hb
def dFz(t:DTF):DTE:=λσ Q=>t σ λxs=>Q (.list xs)
theorem DF.de{t:DTF}(h:DF X e t):DE X e (dFz t):=⟨λpins s σ H H₀ σD Q I ok q=>thn (h.run pins s σ H H₀ σD _ I ok q) λu s' zq34=>by
 obtain⟨a,H',vs,xs,eu,I',sm,n,e,rp,qd⟩:=zq34;obtain⟨H'',J,sm',r'⟩:=zex I' sm n e rp;exact⟨.ref a,H'',.list xs,J,eu,sm',r',qd⟩⟩
def zpb(i:Nat):DTE:=λσ Q=>match σ[i]? with
 |some (some (.val d))=>Q d
 |_=>False
def zpc(i:Nat):DTE:=λσ Q=>match σ[i]? with
 |some (some (.val d))=>Q d
 |some (some (.own (.lst xs)))=>Q (.list xs)
 |some (some (.vw xs))=>Q (.list xs)
 |_=>False
def dC(d:D):DTE:=λ_ Q=>Q d
theorem zi(i:Nat){x:Str}{pos:Pos}(hN:X.N[i]?=some x:=by rfl)(hv:Vis X.env.scope x:=by first|exact Or.inl rfl|exact Or.inr (Or.inl rfl)|exact Or.inr (Or.inr rfl))(hd:(x ==("__debug__" : Str))=false:=by decide)
  (hcd:(x ==("__classdict__" : Str))=false:=by decide):DE X (.Name x pos) (zpb i):=by
 refine DE.of (x3 (i:=i) hN hv hd hcd) λσ H H₀ σD QD ok q=>?_;unfold zpb at q
 split at q
 ·next d e=>
  obtain⟨v,e1,r⟩:=ok.val e;exact⟨v,e1,d,Same.refl _,r,q⟩
 ·exact q.elim
theorem zb(i:Nat){x:Str}{pos:Pos}(hN:X.N[i]?=some x:=by rfl)(hv:Vis X.env.scope x:=by first|exact Or.inl rfl|exact Or.inr (Or.inl rfl)|exact Or.inr (Or.inr rfl))(hd:(x ==("__debug__" : Str))=false:=by decide)
  (hcd:(x ==("__classdict__" : Str))=false:=by decide):DV X (.Name x pos) (zpc i):=by
 refine DV.of (x3 (i:=i) hN hv hd hcd) λσ H H₀ σD QD ok q=>?_;unfold zpc at q
 split at q
 ·next d e=>
  obtain⟨v,e1,r⟩:=ok.val e;exact⟨v,e1,d,Same.refl _,r.top,q⟩
 ·next xs e=>
  obtain⟨a,vs,e1,e2,r,_⟩:=ok.ownL e;exact⟨.ref a,e1,.list xs,Same.refl _,.inr ⟨xs,rfl,a,vs,rfl,.inl e2,r⟩,q⟩
 ·next xs e=>
  obtain⟨v,e1,r⟩:=ok.vw e;exact⟨v,e1,.list xs,Same.refl _,.inr ⟨xs,rfl,r⟩,q⟩
 ·exact q.elim
theorem zc{i j pos}:DE X (.Constant (.int i) j pos) (dC (.int i)):=DE.of xu λσ H H₀ σD QD ok q=>⟨.int i,Same.refl _,.int,q⟩
theorem xl{b j pos}:DE X (.Constant (.bool b) j pos) (dC (.bool b)):=DE.of zum λσ H H₀ σD QD ok q=>⟨.bool b,Same.refl _,.bl,q⟩
theorem zhz{j pos}:DE X (.Constant .none j pos) (dC .none):=DE.of zrt λσ H H₀ σD QD ok q=>⟨.none,Same.refl _,.non,q⟩
theorem zh0{x j pos}:DE X (.Constant (.str x) j pos) (dC (.str x)):=DE.of zru λσ H H₀ σD QD ok q=>⟨.str x,Same.refl _,.str,q⟩
theorem yi{x:Str}{d:D}{v:V}{u:Value}{pos:Pos}(hg:Gl X x)(hm:X.mg x=some u)(r:RelV v u)(rp:∀H,Rep X.K H d v)(hd:(x ==("__debug__" : Str))=false:=by decide):DE X (.Name x pos) (dC d) :=
 DE.of (zow hg hm r hd) λσ H H₀ σD QD ok q=>⟨d,Same.refl _,rp H,q⟩
def zpd:DTF:=λ_ Q=>Q []
def zjq(t:DTE)(r:DTF):DTF:=λσ Q=>t σ λd=>r σ λds=>Q (d::ds)
theorem zn:DA X [] zpd:=⟨λpos pins s σ H H₀ σD Q I ok q=>thn (wm pos pins s σ H (λvs H'=>vs = []/\H'=H) I ⟨rfl,rfl⟩) λus s' zq47=>by obtain⟨vs,H',I',r,e1,e2⟩:=zq47;subst e1 e2;exact⟨[],H',[],I',r,Same.refl _,.nil,q⟩⟩
theorem za{t:DTE}{r:DTF}(ha:DE X e t)(hr:DA X es r)(hs:starEach (e::es) X.env=(false,eval e X.env)::starEach es X.env:=by rfl):DA X (e::es) (zjq t r):=⟨λpos pins s σ H H₀ σD Q I ok q=>by
 refine thn (xh ha.pe hr.pa hs pos pins s σ H (λvs H'=>∃ds,Same H H'/\Reps X.K H' ds vs/\Q ds) I ?_) λus s' zq19=>by obtain⟨vs,H',I',r,ds,sm,rp,qd⟩:=zq19;exact⟨vs,H',ds,I',r,sm,rp,qd⟩
 exact⟨H₀,σD,_,ok,q,λv H1 d s1 r1 q1=>⟨H₀,σD,_,ok.after s1,q1,λvs H2 ds s2 r2 q2=>⟨d::ds,s1.trans s2,.cons (r1.same s2) r2,q2⟩⟩⟩⟩
theorem z9:DAv X [] zpd:=⟨λpos pins s σ H H₀ σD Q I ok q=>thn (wm pos pins s σ H (λvs H'=>vs = []/\H'=H) I ⟨rfl,rfl⟩) λus s' zq49=>by obtain⟨vs,H',I',r,e1,e2⟩:=zq49;subst e1 e2;exact⟨[],H',[],I',r,Same.refl _,.nil,q⟩⟩
theorem zt{t:DTE}{r:DTF}(ha:DV X e t)(hr:DAv X es r)(hs:starEach (e::es) X.env=(false,eval e X.env)::starEach es X.env:=by rfl):DAv X (e::es) (zjq t r):=⟨λpos pins s σ H H₀ σD Q I ok q=>by
 refine thn (xh ha.pe hr.pa hs pos pins s σ H (λvs H'=>∃ds,Same H H'/\RepTs X.K H' ds vs/\Q ds) I ?_) λus s' zq20=>by obtain⟨vs,H',I',r,ds,sm,rp,qd⟩:=zq20;exact⟨vs,H',ds,I',r,sm,rp,qd⟩
 exact⟨H₀,σD,_,ok,q,λv H1 d s1 r1 q1=>⟨H₀,σD,_,ok.after s1,q1,λvs H2 ds s2 r2 q2=>⟨d::ds,s1.trans s2,.cons (r1.same s2) r2,q2⟩⟩⟩⟩
def zmm:DTP:=λ_ Q=>Q []
def zmn(t:DTE)(r:DTP):DTP:=λσ Q=>t σ λd=>r σ λws=>Q (.val d::ws)
def zpe(i:Nat)(r:DTP):DTP:=λσ Q=>match σ[i]? with
 |some (some (.own (.lst xs)))=>r σ λws=>Q (.vw xs::ws)
 |some (some (.vw xs))=>r σ λws=>Q (.vw xs::ws)
 |some (some (.scr ns))=>r σ λws=>Q (.scr ns::ws)
 |some (some (.val d))=>r σ λws=>Q (.val d::ws)
 |some (some .pen)=>r σ λws=>Q (.pen::ws)
 |_=>False
theorem zo:DPs X [] zmm:=⟨λpos pins s σ H H₀ σD Q I ok q=>thn (wm pos pins s σ H (λvs H'=>vs = []/\H'=H) I ⟨rfl,rfl⟩) λus s' zq49=>by obtain⟨vs,H',I',r,e1,e2⟩:=zq49;subst e1 e2;exact⟨[],H',[],I',r,Same.refl _,.nil,q⟩⟩
theorem zq{t:DTE}{r:DTP}(ha:DE X e t)(hr:DPs X es r)(hs:starEach (e::es) X.env=(false,eval e X.env)::starEach es X.env:=by rfl):DPs X (e::es) (zmn t r):=⟨λpos pins s σ H H₀ σD Q I ok q=>by
 refine thn (xh ha.pe hr.pa hs pos pins s σ H (λvs H'=>∃ws,Same H H'/\RepWs X.K H' ws vs/\Q ws) I ?_) λus s' zq20=>by obtain⟨vs,H',I',r,ds,sm,rp,qd⟩:=zq20;exact⟨vs,H',ds,I',r,sm,rp,qd⟩
 exact⟨H₀,σD,_,ok,q,λv H1 d s1 r1 q1=>⟨H₀,σD,_,ok.after s1,q1,λvs H2 ds s2 r2 q2=>⟨.val d::ds,s1.trans s2,.cons (r1.same s2) r2,q2⟩⟩⟩⟩
theorem zm(i:Nat){x:Str}{pos:Pos}{r:DTP}(hr:DPs X es r)(hN:X.N[i]?=some x:=by rfl)(hv:Vis X.env.scope x:=by first|exact Or.inl rfl|exact Or.inr (Or.inl rfl)|exact Or.inr (Or.inr rfl))(hd:(x ==("__debug__" : Str))=false:=by decide)
  (hcd:(x ==("__classdict__" : Str))=false:=by decide) (hs:starEach (.Name x pos::es) X.env=(false,eval (.Name x pos) X.env)::starEach es X.env:=by rfl):DPs X (.Name x pos::es) (zpe i r):=⟨λpos' pins s σ H H₀ σD Q I ok q=>by
 refine thn (xh (x3 (i:=i) hN hv hd hcd) hr.pa hs pos' pins s σ H (λvs H'=>∃ws,Same H H'/\RepWs X.K H' ws vs/\Q ws) I ?_) λus s' zq46=>by obtain⟨vs,H',I',r,ds,sm,rp,qd⟩:=zq46;exact⟨vs,H',ds,I',r,sm,rp,qd⟩
 unfold zpe at q
 split at q
 ·next xs e=>
  obtain⟨a,vs,e1,e2,r,_⟩:=ok.ownL e;exact⟨.ref a,e1,H₀,σD,_,ok,q,λws H2 ds s2 r2 q2=>⟨.vw xs::ds,s2,.cons (RepL.same s2 ⟨a,vs,rfl,.inl e2,r⟩) r2,q2⟩⟩
 ·next xs e=>
  obtain⟨v,e1,r⟩:=ok.vw e;exact⟨v,e1,H₀,σD,_,ok,q,λws H2 ds s2 r2 q2=>⟨.vw xs::ds,s2,.cons (RepL.same s2 r) r2,q2⟩⟩
 ·next ns e=>
  obtain⟨a,e1,r⟩:=ok.scr e;exact⟨.ref a,e1,H₀,σD,_,ok,q,λws H2 ds s2 r2 q2=>⟨.scr ns::ds,s2,.cons ⟨a,rfl,s2.seq r⟩ r2,q2⟩⟩
 ·next d e=>
  obtain⟨v,e1,r⟩:=ok.val e;exact⟨v,e1,H₀,σD,_,ok,q,λws H2 ds s2 r2 q2=>⟨.val d::ds,s2,.cons (r.same s2) r2,q2⟩⟩
 ·next e=>
  obtain⟨a,e1,r⟩:=ok.pen e;exact⟨.ref a,e1,H₀,σD,_,ok,q,λws H2 ds s2 r2 q2=>⟨.pen::ds,s2,.cons ⟨a,rfl,s2 _ _ r⟩ r2,q2⟩⟩
 ·exact q.elim⟩
def zst(t:DTF):DTE:=λσ Q=>t σ λds=>ds.length<=sizeLine/\Q (.tuple ds)
def zsu(t:DTF):DTF:=λσ Q=>t σ λds=>ds.length<=sizeLine/\Q ds
theorem zw{x1 pos}{t:DTF}(h:DA X es t):DE X (.Tuple es x1 pos) (zst t) :=
 DE.of (zsf h.pa) λσ H H₀ σD QD ok q=>⟨H₀,σD,_,ok,q,λvs H1 ds s1 r1 q1=>⟨by rw[<-r1.length];exact q1.1,λp hp=>⟨.tuple ds,s1.trans (yc hp _),.tup (SqT.of zx) (r1.same (yc hp _)),q1.2⟩⟩⟩
theorem yz{pos}{t:DTF}(h:DA X es t):DF X (.List es pos) (zsu t) :=
 DF.of (zsg h.pa) λσ H H₀ σD QD ok q=>⟨H₀,σD,_,ok,q,λvs H1 ds s1 r1 q1=>⟨by rw[<-r1.length];exact q1.1,λp hp=>⟨p,vs,ds,rfl,s1.trans (yc hp _),s1.free hp,zx,r1.same (yc hp _),q1.2⟩⟩⟩
variable {a b:Expr}{rest:List Expr}{pos:Pos}
def onB(Q:Bool->Prop):D->Prop
 |.bool b=>Q b
 |_=>False
def dTB(t:DTE):DTT:=λσ Q=>t σ (onB Q)
def dOr(t u:DTT):DTT:=λσ Q=>t σ λc=>if c=true then Q true else u σ Q
def zsv(t:DTT):DTT:=λσ Q=>t σ λc=>Q (!c)
theorem DWt.dt{t:DTT}(h:DWt X e t):DT X e t:=⟨h.run _⟩
theorem zay{t:DTT}(ha:DT X a t):DWt X (.BoolOp .Or [a] pos) t:=⟨λwh pins s σ H H₀ σD Q I ok q=>by
 refine isTrue_or (thn (ha.run pins s σ H H₀ σD Q I ok q) λc s1 e=>?_)
 cases c with
 |false=>exact isTrue_or_nil e
 |true=>exact e⟩
theorem jq{t u:DTT}(ha:DT X a t)(hb:DWt X (.BoolOp .Or (b::rest) pos) u):DWt X (.BoolOp .Or (a::b::rest) pos) (dOr t u):=⟨λwh pins s σ H H₀ σD Q I ok q=>by
 refine isTrue_or (thn (ha.run pins s σ H H₀ σD _ I ok q) λc s1 zr9=>?_);obtain⟨H1,I1,sm,q1⟩:=zr9
 cases c with
 |false=>
  rw[if_neg Bool.false_ne_true]at q1;exact thn (hb.run wh pins s1 σ H1 H₀ σD Q I1 (ok.after sm) q1) λ_ _ zq67=>by obtain⟨H2,I2,s2,q2⟩:=zq67;exact⟨H2,I2,sm.trans s2,q2⟩
 |true=>rw[if_pos rfl]at q1;exact⟨H1,I1,sm,q1⟩⟩
theorem x8{t:DTT}(ha:DT X a t):DT X (.UnaryOp .Not a pos) (zsv t):=⟨λpins s σ H H₀ σD Q I ok q=>isTrue_not (ha.run pins s σ H H₀ σD (λc=>Q (!c)) I ok q)⟩
def zmo:D->Bool
 |.none=>false
 |.bool b=>b
 |.int i=>i != 0
 |.str x=>(x.length:Int) != 0
 |.tuple xs=>!xs.isEmpty
 |.list xs=>!xs.isEmpty
 |.dict kvs=>!kvs.isEmpty
def zsw(t:DTE):DTT:=λσ Q=>t σ λd=>match d with
 |.str x=>x.length<=sizeLine/\Q (zmo (.str x))
 |.dict _=>False
 |d=>Q (zmo d)
theorem zh1{K:PySem.W.Frag}{H:Hp}{ds:List D}{vs:List V}(r:Reps K H ds vs):(!vs.isEmpty) = !ds.isEmpty:=by cases r <;> rfl
theorem k9{K:PySem.W.Frag}{H:Hp}{d:D}{v:V}(r:RepT K H d v)(h:match d with|.str x=>x.length<=sizeLine|.dict _=>False|_=>True):zsc K v H (zmo d):=by
 rcases r with r |⟨xs,rfl,a,vs,rfl,e,r⟩
 ·cases r with
  |non=>rfl
  |bl=>rfl
  |int=>rfl
  |str=>exact⟨h,rfl⟩
  |tup q r=>exact .inr (.inl ⟨_,q,(zh1 r).symm⟩)
  |lst q r=>exact .inl ⟨_,.inl (.inr ⟨_,q⟩),(zh1 r).symm⟩
  |dic q r=>exact h.elim
 ·exact .inl ⟨vs,.inl e,(zh1 r).symm⟩
theorem wo{t:DTE}(h:DV X e t)(he:∀whole,isTrue e X.env whole=(do let v <-whole;standAt e.pos;holding [v] (truthy v)):=by intro _;rfl):DT X e (zsw t) :=
 DT.of (zma h.pe he) λσ H H₀ σD QD ok q=>⟨H₀,σD,_,ok,q,λv H1 d s1 r1 q1=>by
  cases d with
  |str x=>exact⟨_,k9 r1 q1.1,s1,q1.2⟩
  |dict _=>exact q1.elim
  |none=>exact⟨_,k9 r1 trivial,s1,q1⟩
  |bool _=>exact⟨_,k9 r1 trivial,s1,q1⟩
  |int _=>exact⟨_,k9 r1 trivial,s1,q1⟩
  |tuple _=>exact⟨_,k9 r1 trivial,s1,q1⟩
  |list _=>exact⟨_,k9 r1 trivial,s1,q1⟩⟩
def zmp(t u:DTE):DTE:=λσ Q=>t σ λd=>match d with
 |.bool c=>if c=true then u σ Q else Q (.bool false)
 |_=>False
def zsx(c:DTT)(t u:DTE):DTE:=λσ Q=>c σ λb=>if b=true then t σ Q else u σ Q
theorem zmq{op}{t:DTE}(h:DE X a t):DE X (.BoolOp op [a] pos) t:=⟨λpins s σ H H₀ σD Q I ok q=>BoolOp_one (h.run pins s σ H H₀ σD Q I ok q)⟩
theorem DEnd.back{pins:List (Addr×Obj)}{σ:St}{H H1:Hp}{Q:D->Prop}{u:Value}{s':Shared}(s1:Same H H1)(h:DEnd X pins σ H1 Q u s'):DEnd X pins σ H Q u s':=let ⟨v,H',d,I',r,sm,rp,qd⟩:=h;⟨v,H',d,I',r,s1.trans sm,rp,qd⟩
theorem zmr{t u:DTE}(ha:DE X a t)(hb:DE X (.BoolOp .And (b::rest) pos) u):DE X (.BoolOp .And (a::b::rest) pos) (zmp t u):=⟨λpins s σ H H₀ σD Q I ok q=>by
 refine BoolOp_and (thn (ha.run pins s σ H H₀ σD _ I ok q) λv s1 zr64=>?_);obtain⟨x,H1,d,I1,r1,sm,rp,q1⟩:=zr64
 cases d with
 |bool c=>
  cases rp
  cases r1;refine wpAny_truthy_bool ?_
  cases c with
  |true=>exact thn (hb.run pins s1 σ H1 H₀ σD Q I1 (ok.after sm) (by simpa using q1)) λ_ _ h=>h.back sm
  |false=>exact⟨.bl false,H1,.bool false,I1,rfl,sm,.bl,by simpa using q1⟩
 |_=>exact q1.elim⟩
theorem zgb{c:Expr}{tc:DTT}{t u:DTE}(hc:DT X c tc)(ha:DE X a t)(hb:DE X b u):DE X (.IfExp c a b pos) (zsx tc t u) :=
 DE.of (zl4 hc.pt ha.pe hb.pe) λσ H H₀ σD QD ok q=>⟨H₀,σD,_,ok,q,λk H1 s1 q1=>by
  cases k with
  |true=>rw[if_pos rfl]at q1 ⊢;exact⟨H₀,σD,_,ok.after s1,q1,λv H2 d s2 r2 q2=>⟨d,s1.trans s2,r2,q2⟩⟩
  |false=>rw[if_neg Bool.false_ne_true]at q1 ⊢;exact⟨H₀,σD,_,ok.after s1,q1,λv H2 d s2 r2 q2=>⟨d,s1.trans s2,r2,q2⟩⟩⟩
end
section
variable {X:Cx}{pins:List (Addr×Obj)}{σ:St}{H:Hp}{s:Shared}
theorem Reps.readsW(I:Inv X pins σ H s){ds:List D}{vs:List V}(h:Reps X.K H ds vs)(k:∀d∈ds,∀(v:V) (u:Value),Rep X.K H d v->RelV v u->d.canLay0=true->∃as,Reads s.heap u d as){us:List Value}(r:Vals vs us)(c:PyData.canLayAll0 ds=true):∃as,ReadsAll s.heap us ds as:=by
 induction ds generalizing vs us with
 |nil=>cases h;cases r;exact⟨_,.nil⟩
 |cons d ds ih=>
  cases h with
  |cons q t=>
   cases r with
   |cons r1 r2=>
    simp only[PyData.canLayAll0,Bool.and_eq_true]at c;obtain⟨as,ra⟩:=k d List.mem_cons_self _ _ q r1 c.1;obtain⟨bs,rb⟩:=ih t (λx hx=>k x (List.mem_cons_of_mem _ hx)) r2 c.2;exact⟨_,.cons ra rb⟩
theorem Rep.reads(I:Inv X pins σ H s){d:D}{v:V}{u:Value}(h:Rep X.K H d v)(r:RelV v u)(c:d.canLay0=true):∃as,Reads s.heap u d as:=by
 refine Rep.rec (motive_1:=λd v _=>∀u:Value,RelV v u->d.canLay0=true->∃as,Reads s.heap u d as) (motive_2:=λds vs _=>∀us:List Value,Vals vs us->PyData.canLayAll0 ds=true->∃as,ReadsAll s.heap us ds as) (motive_3:=λ_ _ _=>True)
  ?_ ?_ ?_ ?_ ?_ ?_ ?_ ?_ ?_ trivial (λ_ _ _ _=>trivial) h u r c
 ·intro u r _;cases r;exact⟨_,.none⟩
 ·intro b u r _;cases r;exact⟨_,.bool _⟩
 ·intro i u r _;obtain⟨t,rfl⟩:=r;exact⟨_,.int _ _⟩
 ·intro x u r _;obtain⟨t,rfl⟩:=r;exact⟨_,.str _ _⟩
 ·intro xs a vs h q ih u r c
  cases r;obtain⟨its,rv,⟨o,e1,e2,n,e3⟩,_⟩:=I.tuple h;obtain⟨as,ra⟩:=ih its rv (by simpa[PyData.canLay0]using c);exact⟨_,.tuple e1 e2 e3 (by simpa using ra)⟩
 ·intro xs a vs o h q ih u r c
  cases r;obtain⟨_,z,its,n,rv,e⟩:=I.hok _ _ h;obtain⟨as,ra⟩:=ih its rv (by simpa[PyData.canLay0]using c);exact⟨_,.list e rfl rfl (by simpa using ra)⟩
 ·intro kvs a kws o h q ih u r c;simp[PyData.canLay0]at c
 ·intro us r _;cases r;exact⟨_,.nil⟩
 ·intro d v ds vs q t i j us r c
  cases r with
  |cons r1 r2=>
   simp only[PyData.canLayAll0,Bool.and_eq_true]at c;obtain⟨as,ra⟩:=i _ r1 c.1;obtain⟨bs,rb⟩:=j _ r2 c.2;exact⟨_,.cons ra rb⟩
theorem Reps.reads(I:Inv X pins σ H s){ds:List D}{vs:List V}{us:List Value}(h:Reps X.K H ds vs)(r:Vals vs us)(c:PyData.canLayAll0 ds=true):∃as,ReadsAll s.heap us ds as:=h.readsW I (λ_ _ _ _ q r c=>q.reads I r c) r c
theorem RepT.reads(I:Inv X pins σ H s){d:D}{v:V}{u:Value}(h:RepT X.K H d v)(r:RelV v u)(c:d.canLay0=true):∃as,Reads s.heap u d as:=by
 rcases h with h |⟨xs,rfl,a,vs,rfl,e,q⟩
 ·exact h.reads I r c
 ·cases r;obtain⟨z,its,n,rv,e⟩:=e.ok I.hok;obtain⟨as,ra⟩:=Reps.reads I q rv (by simpa[PyData.canLay0]using c);exact⟨_,.list e rfl rfl (by simpa using ra)⟩
end
def Lay(d:D):Prop:=SeqAt.shaped d=true
theorem Lay.can{d:D}(h:Lay d):d.canLay0=true:=by unfold Lay SeqAt.shaped at h;rw[Bool.and_eq_true]at h;exact h.1
abbrev DOp:=D->D->(D->Prop)->Prop
structure OpD(X:Cx)(f:Value->Value->Sem Value)(g:DOp):Prop where
 run:∀(pins:List (Addr×Obj)) (s:Shared) (σ:St) (H:Hp) (x y:V) (v u:Value) (a b:D) (Q:D->Prop),Inv X pins σ H s->RelV x v->RelV y u->RepT X.K H a x->RepT X.K H b y->g a b Q->wpAny (model X.prog X.w) X.A (f v u) (DEnd X pins σ H Q) X.xe s
structure OpF(X:Cx)(f:Value->Value->Sem Value)(g:D->D->(List D->Prop)->Prop):Prop where
 run:∀(pins:List (Addr×Obj)) (s:Shared) (σ:St) (H:Hp) (x y:V) (v u:Value) (a b:D) (Q:List D->Prop),Inv X pins σ H s->RelV x v->RelV y u->RepT X.K H a x->RepT X.K H b y->g a b Q->wpAny (model X.prog X.w) X.A (f v u) (zci X pins σ H Q) X.xe s
def dOp(g:DOp)(ta tb:DTE):DTE:=λσ Q=>ta σ λa=>tb σ λb=>g a b Q
section
variable {X:Cx}{a b c:Expr}{ta tb tc:DTE}{pos:Pos}
theorem OpD.of{f:Value->Value->Sem Value}{r:R2}{g:DOp}(h:OpR X f r)(k:∀x y H a b Q,RepT X.K H a x->RepT X.K H b y->g a b Q->r x y H (λv H'=>∃d,Same H H'/\Rep X.K H' d v/\Q d)):OpD X f g :=
 ⟨λpins s σ H x y v u a b Q I rx ry ra rb q=>thn (h pins s σ H x y v u _ I rx ry (k x y H a b Q ra rb q)) λw s' zq15=>by obtain⟨z,H',I',rz,d,sm,rp,qd⟩:=zq15;exact⟨z,H',d,I',rz,sm,rp,qd⟩⟩
theorem OpF.of{f:Value->Value->Sem Value}{r:R2}{g:D->D->(List D->Prop)->Prop}(h:OpR X f r)(k:∀x y H a b Q,RepT X.K H a x->RepT X.K H b y->g a b Q->r x y H (λv H'=>∃p vs xs,v=.ref p/\Same H H'/\H p=none/\H' p=some (.lst vs)/\Reps X.K H' xs vs/\Q xs)):OpF X f g :=
 ⟨λpins s σ H x y v u a b Q I rx ry ra rb q=>thn (h pins s σ H x y v u _ I rx ry (k x y H a b Q ra rb q)) λw s' zq15=>by obtain⟨z,H',I',rz,p,vs,xs,ez,sm,n,e,rp,qd⟩:=zq15;exact⟨p,H',vs,xs,by subst ez;exact rz,I',sm,n,e,rp,qd⟩⟩
theorem OpF.opD{f:Value->Value->Sem Value}{g:D->D->(List D->Prop)->Prop}(h:OpF X f g):OpD X f (λa b Q=>g a b λxs=>Q (.list xs)) :=
 ⟨λpins s σ H x y v u a b Q I rx ry ra rb q=>thn (h.run pins s σ H x y v u a b _ I rx ry ra rb q) λw s' zq7=>by
  obtain⟨p,H',vs,xs,ew,I',sm,n,e,rp,qd⟩:=zq7;obtain⟨H'',J,sm',r'⟩:=zex I' sm n e rp;exact⟨.ref p,H'',.list xs,J,ew,sm',r',qd⟩⟩
theorem zvm{ta tb:DTE}(ha:DV X a ta)(hb:DV X b tb){pins:List (Addr×Obj)}{s:Shared}{σ:St}{H H₀:Hp}{σD:DSt}{R:D->D->Prop}(I:Inv X pins σ H s)(ok:DOk X.K H₀ H σD σ)(h:ta σD λx=>tb σD λy=>R x y)
  {α:Type}{Q:α->Shared->Prop}{f:Value->Value->Sem α}
  (hf:∀v u s2 x y H2 d e,Inv X pins σ H2 s2->RelV x v->RelV y u->Same H H2->RepT X.K H2 d x->RepT X.K H2 e y->R d e->wpAny (model X.prog X.w) X.A (f v u) Q X.xe s2) :
  wpAny (model X.prog X.w) X.A (eval a X.env) (λv s₁=>wpAny (model X.prog X.w) X.A (eval b X.env) (λu s₂=>wpAny (model X.prog X.w) X.A (f v u) Q X.xe s₂) X.xe s₁) X.xe s:=by
 refine thn (ha.run pins s σ H H₀ σD _ I ok h) λv s1 zr1=>?_;obtain⟨x,H1,d,I1,r1,sm1,p1,q1⟩:=zr1;refine thn (hb.run pins s1 σ H1 H₀ σD _ I1 (ok.after sm1) q1) λu s2 zr2=>?_;obtain⟨y,H2,e,I2,r2,sm2,p2,q2⟩:=zr2;exact hf v u s2 x y H2 d e I2 r1 r2 (sm1.trans sm2) (p1.same sm2) p2 q2
theorem z0{op:Operator}{g:DOp}(ho:OpD X (binaryOp op) g)(ha:DV X a ta)(hb:DV X b tb):DE X (.BinOp a op b pos) (dOp g ta tb) :=
 ⟨λpins s σ H H₀ σD Q I ok q=>wpAny_BinOp (zvm ha hb I ok q λv u s2 x y H2 d e I2 rx ry sm rd re qd=>thn (ho.run pins s2 σ H2 x y v u d e Q I2 rx ry rd re qd) λ_ _ z=>z.back sm)⟩
theorem zh2{op:CmpOp}{g:DOp}(ho:OpD X (compareOp op) g)(ha:DV X a ta)(hb:DV X b tb)(hm:behindInMarks op b=false):DE X (.Compare a [op] [b] pos) (dOp g ta tb) :=
 ⟨λpins s σ H H₀ σD Q I ok q=>wpAny_Compare1 (zvm ha hb I ok q λv u s2 x y H2 d e I2 rx ry sm rd re qd=>thn (ho.run pins s2 σ H2 x y v u d e Q I2 rx ry rd re qd) λ_ _ z=>z.back sm) hm⟩
theorem yk{op:CmpOp}{g:DOp}(ho:OpD X (compareOp op) g)(ha:DV X a ta)(hb:DV X b tb)(hm:behindInMarks op b=false):DT X (.Compare a [op] [b] pos) (dTB (dOp g ta tb)) :=
 ⟨λpins s σ H H₀ σD Q I ok q=>by
  refine wpAny_isTrue_Compare1 (thn (ha.run pins s σ H H₀ σD _ I ok q) λv s1 ⟨x,H1,d,I1,r1,sm1,p1,q1⟩=>thn (hb.run pins s1 σ H1 H₀ σD _ I1 (ok.after sm1) q1) λu s2 ⟨y,H2,e,I2,r2,sm2,p2,q2⟩=>
   thn (ho.run pins s2 σ H2 x y v u d e _ I2 r1 r2 (p1.same sm2) p2 q2) λk s3 ⟨z,H3,dz,I3,r3,sm3,p3,q3⟩=>?_) hm
  cases dz with
  |bool k=>
   cases p3
   cases r3;exact wpAny_truthy_bool ⟨H3,I3,(sm1.trans sm2).trans sm3,q3⟩
  |_=>exact q3.elim⟩
def zey(g g':DOp)(ta tb tc:DTE):DTE:=λσ Q=>ta σ λa=>tb σ λb=>g a b λz=>match z with
 |.bool k=>if k=true then tc σ λc=>g' b c Q else Q (.bool false)
 |_=>False
theorem zcj{op op':CmpOp}{g g':DOp}(ho:OpD X (compareOp op) g)(ho':OpD X (compareOp op') g')(ha:DV X a ta)(hb:DV X b tb)(hc:DV X c tc)
  (hm:lastMarks [op,op'] [b,c]=false:=by with_unfolding_all rfl):DE X (.Compare a [op,op'] [b,c] pos) (zey g g' ta tb tc):=⟨λpins s σ H H₀ σD Q I ok q=>by
 refine Compare_chain (thn (ha.run pins s σ H H₀ σD _ I ok q) λv s1 ⟨x,H1,d,I1,r1,sm1,p1,q1⟩=>chain_link (thn (hb.run pins s1 σ H1 H₀ σD _ I1 (ok.after sm1) q1) λu s2 ⟨y,H2,e,I2,r2,sm2,p2,q2⟩=>
  thn (ho.run pins s2 σ H2 x y v u d e _ I2 r1 r2 (p1.same sm2) p2 q2) λk s3 ⟨z,H3,dz,I3,r3,sm3,p3,q3⟩=>?_)) hm
 cases dz with
 |bool k=>
  cases p3
  cases r3;refine wpAny_truthy_bool ?_
  cases k with
  |false=>exact ite_ff ⟨.bl false,H3,.bool false,I3,rfl,(sm1.trans sm2).trans sm3,.bl,by simpa using q3⟩
  |true=>
   refine ite_tt (chain_last (thn (hc.run pins s3 σ H3 H₀ σD (λc=>g' e c Q) I3 (ok.after ((sm1.trans sm2).trans sm3)) (by simpa using q3)) λw' s4 zr36=>?_));obtain⟨z',H4,f,I4,r4,sm4,p4,q4⟩:=zr36;exact thn (ho'.run pins s4 σ H4 y z' u w' e f Q I4 r2 r4 ((p2.same sm3).same sm4) p4 q4) λ_ _ z=>z.back (((sm1.trans sm2).trans sm3).trans sm4)
 |_=>exact q3.elim⟩
theorem zaa{op op':CmpOp}{g g':DOp}(ho:OpD X (compareOp op) g)(ho':OpD X (compareOp op') g')(ha:DV X a ta)(hb:DV X b tb)(hc:DV X c tc)
  (hm:lastMarks [op,op'] [b,c]=false:=by with_unfolding_all rfl):DT X (.Compare a [op,op'] [b,c] pos) (dTB (zey g g' ta tb tc)):=⟨λpins s σ H H₀ σD Q I ok q=>by
 refine isTrue_chain (thn (ha.run pins s σ H H₀ σD _ I ok q) λv s1 ⟨x,H1,d,I1,r1,sm1,p1,q1⟩=>test_link (thn (hb.run pins s1 σ H1 H₀ σD _ I1 (ok.after sm1) q1) λu s2 ⟨y,H2,e,I2,r2,sm2,p2,q2⟩=>
  thn (ho.run pins s2 σ H2 x y v u d e _ I2 r1 r2 (p1.same sm2) p2 q2) λk s3 ⟨z,H3,dz,I3,r3,sm3,p3,q3⟩=>?_)) hm
 cases dz with
 |bool k=>
  cases p3
  cases r3;refine wpAny_truthy_bool ?_
  cases k with
  |false=>exact ite_ff ⟨H3,I3,(sm1.trans sm2).trans sm3,by simpa[onB]using q3⟩
  |true=>
   refine ite_tt (test_last (thn (hc.run pins s3 σ H3 H₀ σD (λc=>g' e c (onB Q)) I3 (ok.after ((sm1.trans sm2).trans sm3)) (by simpa using q3)) λw' s4 zr51=>?_));obtain⟨z',H4,f,I4,r4,sm4,p4,q4⟩:=zr51;refine thn (ho'.run pins s4 σ H4 y z' u w' e f _ I4 r2 r4 ((p2.same sm3).same sm4) p4 q4) λk' s5 zr52=>?_;obtain⟨z2,H5,dz2,I5,r5,sm5,p5,q5⟩:=zr52
   cases dz2 with
   |bool k2=>
    cases p5
    cases r5;exact wpAny_truthy_bool ⟨H5,I5,(((sm1.trans sm2).trans sm3).trans sm4).trans sm5,q5⟩
   |_=>exact q5.elim
 |_=>exact q3.elim⟩
def dUn(g:D->(D->Prop)->Prop)(ta:DTE):DTE:=λσ Q=>ta σ λa=>g a Q
def zsy:D->(D->Prop)->Prop
 |.int i,Q=>Q (.int (-i))
 |_,_=>False
theorem zh3(ha:DE X a ta):DE X (.UnaryOp .USub a pos) (dUn zsy ta) :=
 DE.of (zux zsa ha.pe) λσ H H₀ σD QD ok q=>⟨H₀,σD,_,ok,q,λv H1 d s1 r1 q1=>by
  cases d with
  |int i=>cases r1;exact⟨i,rfl,.int (-i),s1,.int,q1⟩
  |_=>exact q1.elim⟩
def zsz:D->(D->Prop)->Prop
 |.bool b,Q=>Q (.bool (!b))
 |_,_=>False
theorem zh4(ha:DE X a ta):DE X (.UnaryOp .Not a pos) (dUn zsz ta) :=
 DE.of (zrw ha.pe) λσ H H₀ σD QD ok q=>⟨H₀,σD,_,ok,q,λv H1 d s1 r1 q1=>by
  cases d with
  |bool i=>cases r1;exact⟨i,rfl,.bool (!i),s1,.bl,q1⟩
  |_=>exact q1.elim⟩
theorem RepT.int{K:PySem.W.Frag}{H:Hp}{i:Int}{v:V}(h:RepT K H (.int i) v):v=.int i:=by
 rcases h with h |⟨_,e,_⟩
 ·cases h;rfl
 ·cases e
theorem RepT.str{K:PySem.W.Frag}{H:Hp}{i:Str}{v:V}(h:RepT K H (.str i) v):v=.str i:=by
 rcases h with h |⟨_,e,_⟩
 ·cases h;rfl
 ·cases e
theorem RepT.bool{K:PySem.W.Frag}{H:Hp}{i:Bool}{v:V}(h:RepT K H (.bool i) v):v=.bl i:=by
 rcases h with h |⟨_,e,_⟩
 ·cases h;rfl
 ·cases e
theorem RepT.none{K:PySem.W.Frag}{H:Hp}{v:V}(h:RepT K H .none v):v=.non:=by
 rcases h with h |⟨_,e,_⟩
 ·cases h;rfl
 ·cases e
theorem RepT.tuple{K:PySem.W.Frag}{H:Hp}{xs:List D}{v:V}(h:RepT K H (.tuple xs) v):∃a vs,v=.ref a/\SqT K H a vs/\Reps K H xs vs:=by
 rcases h with h |⟨_,e,_⟩
 ·cases h with
  |tup h r=>exact⟨_,_,rfl,h,r⟩
 ·cases e
def gII(C:Int->Int->Prop)(f:Int->Int->D):DOp
 |.int i,.int j,Q=>C i j/\Q (f i j)
 |_,_,_=>False
def zez(f:Int->Int->D):DOp
 |.int i,.int j,Q=>Q (f i j)
 |_,_,_=>False
theorem OpD.ii{f:Value->Value->Sem Value}{C:Int->Int->Prop}{g:Int->Int->Int}(h:OpR X f (rI C λi j=>.int (g i j))):OpD X f (gII C λi j=>.int (g i j)) :=
 OpD.of h λx y H a b Q ra rb q=>by
  cases a with
  |int i=>
   cases b with
   |int j=>cases ra.int;cases rb.int;exact⟨i,j,rfl,rfl,q.1,.int _,Same.refl _,.int,q.2⟩
   |_=>exact q.elim
  |_=>exact q.elim
theorem OpD.ii0{f:Value->Value->Sem Value}{g:Int->Int->Int}(h:OpR X f (rI0 λi j=>.int (g i j))):OpD X f (zez λi j=>.int (g i j)) :=
 OpD.of h λx y H a b Q ra rb q=>by
  cases a with
  |int i=>
   cases b with
   |int j=>cases ra.int;cases rb.int;exact⟨i,j,rfl,rfl,.int _,Same.refl _,.int,q⟩
   |_=>exact q.elim
  |_=>exact q.elim
theorem OpD.ib0{f:Value->Value->Sem Value}{g:Int->Int->Bool}(h:OpR X f (rI0 λi j=>.bl (g i j))):OpD X f (zez λi j=>.bool (g i j)) :=
 OpD.of h λx y H a b Q ra rb q=>by
  cases a with
  |int i=>
   cases b with
   |int j=>cases ra.int;cases rb.int;exact⟨i,j,rfl,rfl,.bool _,Same.refl _,.bl,q⟩
   |_=>exact q.elim
  |_=>exact q.elim
theorem zd2:OpD X (binaryOp .Sub) (zez λi j=>.int (i-j)):=OpD.ii0 zr5
theorem zms:OpD X (binaryOp .Mod) (gII (λ_ j=>0<j) λi j=>.int (i % j)):=OpD.ii zhp
theorem zvn:OpD X (binaryOp .Pow) (gII zuz λi j=>.int (i ^ j.toNat)):=OpD.ii zr8
theorem ze0:OpD X (compareOp .Lt) (zez λi j=>.bool (decide (i<j))):=OpD.ib0 zu1
theorem zck:OpD X (compareOp .LtE) (zez λi j=>.bool (decide (i<=j))):=OpD.ib0 zu2
theorem zvo:OpD X (compareOp .Gt) (zez λi j=>.bool (decide (j<i))):=OpD.ib0 zq3
theorem zvp:OpD X (compareOp .GtE) (zez λi j=>.bool (decide (j<=i))):=OpD.ib0 zu3
def zs0:D->D->(List D->Prop)->Prop
 |.list xs,.list ys,Q=>xs.length+ys.length<=sizeLine/\Q (xs++ys)
 |_,_,_=>False
theorem zpf:OpR X (binaryOp .Add) (λx y H Q=>∃l b xs zs,x=.ref l/\y=.ref b/\Rd H l (.lst xs)/\Rd H b (.lst zs)/\xs.length+zs.length<=sizeLine/\∀p,H p=none->Q (.ref p) (upd H p (.lst (xs++zs)))):=by
 intro pins s σ H x y v u Q I rx ry h;obtain⟨l,b,xs,zs,rfl,rfl,hH,hB,hz,q⟩:=h
 cases rx
 cases ry;obtain⟨z,its,n,r,e⟩:=hH.ok I.hok;obtain⟨z2,its2,n2,r2,e2⟩:=hB.ok I.hok;have hl:=r.length;have hl2:=r2.length;refine PySem.P.add_list e e2 ?_ (by rw[List.size_toArray,List.size_toArray];omega);have ea:its.toArray++its2.toArray=(its++its2).toArray:=by simp
 rw[ea];exact⟨.ref _,_,I.lnew (t':=s.toks) (r.append r2) (by rw[List.length_append];omega),rfl,q _ I.fresh⟩
theorem f_cat:OpF X (binaryOp .Add) zs0:=OpF.of zpf λx y H a b Q ra rb q=>by
 cases a with
 |list xs=>
  cases b with
  |list ys=>
   obtain⟨l,vs,rfl,hl,r1⟩:=ra.list;obtain⟨m,ws,rfl,hm,r2⟩:=rb.list;exact⟨l,m,vs,ws,rfl,rfl,hl,hm,by rw[<-r1.length,<-r2.length];exact q.1,λp hp=>⟨p,_,xs++ys,rfl,yc hp _,hp,zx,(r1.append r2).same (yc hp _),q.2⟩⟩
  |_=>exact q.elim
 |_=>exact q.elim
def zs1:D->D->(List D->Prop)->Prop
 |.list xs,.int k,Q=>-(2 ^ 63)<=k/\k<2 ^ 63/\xs.length * k.toNat<=sizeLine/\Q (List.replicate k.toNat xs).flatten
 |_,_,_=>False
theorem zpg:OpR X (binaryOp .Mult) (λx y H Q=>∃l k xs,x=.ref l/\y=.int k/\Rd H l (.lst xs)/\-(2 ^ 63)<=k/\k<2 ^ 63/\xs.length * k.toNat<=sizeLine /\
 ∀p,H p=none->Q (.ref p) (upd H p (.lst (List.replicate k.toNat xs).flatten))):=by
 intro pins s σ H x y v u Q I rx ry h;obtain⟨l,k,xs,rfl,rfl,hH,h1,h2,hz,q⟩:=h
 cases rx;obtain⟨t,rfl⟩:=ry;obtain⟨z,its,n,r,e⟩:=hH.ok I.hok;have hl:=r.length;have hlen:its.toArray.size * k.toNat<=sizeLine:=by rw[List.size_toArray,<-hl];exact hz
 have hcap:¬ its.toArray.size * k.toNat >(2 ^ 63-1) / 8:=by
  have:(sizeLine:Nat)<=(2 ^ 63-1) / 8:=by decide
  omega
 have hfit:¬ (!Builtin.List.listFitsIndex k)=true:=by
  rw[fitsIndex_both h1 h2];exact Bool.false_ne_true
 have hlong:¬ Builtin.List.listTooLong (its.toArray.size * k.toNat)=true:=by
  rw[zf8 hlen];exact Bool.false_ne_true
 have hnew:List.foldl (λx1 x2=>x1++x2) #[] (List.replicate (if its.toArray.isEmpty=true then 0 else k.toNat) its.toArray)=(List.replicate k.toNat its).flatten.toArray:=by
  have f0:∀m:Nat,List.foldl (λx1 x2=>x1++x2) #[] (List.replicate m its.toArray)=(List.replicate m its).flatten.toArray:=λm=>by
   have:=zdw its m [];rw[List.nil_append]at this;exact this
  rw[f0]
  cases its with
  |nil=>simp
  |cons a r'=>rw[if_neg (by simp)]
 refine wpAny_binaryOp_repeat_ref (T := "list") (U := "int") (by decide) ⟨_,e,rfl⟩ (λs'=>typeIs_int s' k t) noFill_list_mul F.fills_int_mul F.slot_int_rmul repeat_list F.slot_int_index.lookup
  (call_meets F.slot_int_rmul (typeIs_int s k t) F.entry_int_rmul (F.args_int_rmul_2 _ _) (int___rmul___int_list k t l its.toArray n)
   ⟨e,rfl,⟨_,e,rfl⟩,call_meets F.slot_list_mul ⟨_,e,rfl⟩ F.entry_list_mul (F.args_list_mul_2 _ _) (AutoListH.list___mul___list_int_3 l its.toArray n k t hfit hcap hlong) ⟨e,?_⟩⟩)
 rw[hnew];exact⟨.ref _,_,I.lnew (t':=s.toks) (r.rep k.toNat) (by rw[zo8,Nat.mul_comm];exact hz),rfl,q _ I.fresh⟩
theorem f_rep:OpF X (binaryOp .Mult) zs1:=OpF.of zpg λx y H a b Q ra rb q=>by
 cases a with
 |list xs=>
  cases b with
  |int k=>
   obtain⟨l,vs,rfl,hl,r1⟩:=ra.list
   cases rb.int;obtain⟨h1,h2,h3,q⟩:=q;exact⟨l,k,vs,rfl,rfl,hl,h1,h2,by rw[<-r1.length];exact h3,λp hp=>⟨p,_,_,rfl,yc hp _,hp,zx,(r1.rep k.toNat).same (yc hp _),q⟩⟩
  |_=>exact q.elim
 |_=>exact q.elim
def zs2:DOp
 |.int i,.int j,Q=>Q (.int (i+j))
 |.str x,.str y,Q=>x.length+y.length<=sizeLine/\Q (.str (x++y))
 |.tuple xs,.tuple ys,Q=>xs.length+ys.length<=sizeLine/\Q (.tuple (xs++ys))
 |.list xs,.list ys,Q=>xs.length+ys.length<=sizeLine/\Q (.list (xs++ys))
 |_,_,_=>False
theorem zph:OpR X (binaryOp .Add) (λx y H Q=>∃a b xs ys,x=.ref a/\y=.ref b/\SqT X.K H a xs/\SqT X.K H b ys/\xs.length+ys.length<=sizeLine/\∀p H',Same H H'->SqT X.K H' p (xs++ys)->Q (.ref p) H'):=by
 intro pins s σ H x y v u Q I rx ry h;obtain⟨a,b,xs,ys,rfl,rfl,ha,hb,hz,q⟩:=h
 cases rx
 cases ry;obtain⟨its,r1,p1,_⟩:=I.tuple ha;obtain⟨its2,r2,p2,_⟩:=I.tuple hb
 by_cases hx:xs = []
 ·obtain⟨⟨cls,dd,data,sl⟩,ho,hc,n,hd⟩:=id p1;obtain⟨⟨cls2,dd2,data2,sl2⟩,ho2,hc2,n2,hd2⟩:=id p2;simp only at hc hd hc2 hd2;subst hc hd hc2 hd2;have hv:its = []:=r1.nil_iff.mpr hx;refine concat_meets ⟨_,ho,rfl⟩ ⟨_,ho2,rfl⟩ noFill_tuple_add seq_tuple_add PySem.F.slot_tuple_add PySem.F.entry_tuple_add (PySem.F.args_tuple_add_2 _ _) (tuple_addW0 a b its.toArray its2.toArray n n2 dd dd2 sl sl2 (by simp[hv])) ⟨ho,ho2,?_⟩;exact⟨.ref b,H,I,rfl,q b H (Same.refl H) (by rw[hx,List.nil_append];exact hb)⟩
 ·refine HT.cat_tup p1 p2 (λz=>hx (r1.nil_iff.mp z)) (λz=>⟨.ref a,H,I,rfl,q a H (Same.refl H) (by rw[r2.nil_iff.mp z,List.append_nil];exact ha)⟩) (λz=>?_) (by rw[<-r1.length,<-r2.length];exact hz);refine⟨.ref s.heap.objs.size,_,I.laid (t':=s.toks) (o:=.tup (xs++ys)) (λb ob q=>Heap.get?_push_of_some _ q) (Nat.le_refl _) ?_,rfl,q _ _ (yc (I.hok.fresh (Nat.le_refl _)) _) (SqT.of zx)⟩;exact⟨by rw[List.length_append];exact hz,_,r1.append r2,TupD.new _ _⟩
theorem o_catT:OpD X (binaryOp .Add) (λa b Q=>match a,b with|.tuple xs,.tuple ys=>xs.length+ys.length<=sizeLine/\Q (.tuple (xs++ys))|_,_=>False):=OpD.of zph λx y H a b Q ra rb q=>by
 cases a with
 |tuple xs=>
  cases b with
  |tuple ys=>
   obtain⟨l,vs,rfl,hl,r1⟩:=ra.tuple;obtain⟨m,ws,rfl,hm,r2⟩:=rb.tuple;exact⟨l,m,vs,ws,rfl,rfl,hl,hm,by rw[<-r1.length,<-r2.length];exact q.1,λp H' sm e=>⟨_,sm,.tup e ((r1.append r2).same sm),q.2⟩⟩
  |_=>exact q.elim
 |_=>exact q.elim
theorem o_addS:OpD X (binaryOp .Add) (λa b Q=>match a,b with|.str x,.str y=>x.length+y.length<=sizeLine/\Q (.str (x++y))|_,_=>False):=OpD.of zhr λx y H a b Q ra rb q=>by
 cases a with
 |str xs=>
  cases b with
  |str ys=>cases ra.str;cases rb.str;exact⟨_,_,rfl,rfl,q.1,.str _,Same.refl _,.str,q.2⟩
  |_=>exact q.elim
 |_=>exact q.elim
theorem yj:OpD X (binaryOp .Add) zs2:=⟨λpins s σ H x y v u a b Q I rx ry ra rb q=>by
 cases a with
 |int i=>cases b with
  |int j=>exact(OpD.ii0 zl8).run pins s σ H x y v u _ _ Q I rx ry ra rb q
  |_=>exact q.elim
 |str i=>cases b with
  |str j=>exact o_addS.run pins s σ H x y v u _ _ Q I rx ry ra rb q
  |_=>exact q.elim
 |tuple i=>cases b with
  |tuple j=>exact o_catT.run pins s σ H x y v u _ _ Q I rx ry ra rb q
  |_=>exact q.elim
 |list i=>cases b with
  |list j=>exact f_cat.opD.run pins s σ H x y v u _ _ Q I rx ry ra rb q
  |_=>exact q.elim
 |_=>exact q.elim⟩
def zs3:DOp
 |.int i,.int j,Q=>CMul i j/\Q (.int (i * j))
 |.list xs,.int k,Q=>-(2 ^ 63)<=k/\k<2 ^ 63/\xs.length * k.toNat<=sizeLine/\Q (.list (List.replicate k.toNat xs).flatten)
 |_,_,_=>False
theorem zgc:OpD X (binaryOp .Mult) zs3:=⟨λpins s σ H x y v u a b Q I rx ry ra rb q=>by
 cases a with
 |int i=>cases b with
  |int j=>exact(OpD.ii zr7).run pins s σ H x y v u _ _ Q I rx ry ra rb q
  |_=>exact q.elim
 |list i=>cases b with
  |int j=>exact f_rep.opD.run pins s σ H x y v u _ _ Q I rx ry ra rb q
  |_=>exact q.elim
 |_=>exact q.elim⟩
def gEq:DOp
 |.int i,.int j,Q=>Q (.bool (decide (i=j)))
 |.str i,.str j,Q=>Q (.bool (decide (i=j)))
 |.bool i,.bool j,Q=>Q (.bool (decide (i=j)))
 |a,b,Q=>Lay a/\Lay b/\Q (.bool (PyData.eqv a b))
def gNe:DOp
 |.int i,.int j,Q=>Q (.bool (!decide (i=j)))
 |.str i,.str j,Q=>Q (.bool (!decide (i=j)))
 |.bool i,.bool j,Q=>Q (.bool (!decide (i=j)))
 |a,b,Q=>Lay a/\Lay b/\Q (.bool (!PyData.eqv a b))
theorem zvq(hu:X.A.units+64<cLine):OpD X (compareOp .Eq) (λa b Q=>Lay a/\Lay b/\Q (.bool (PyData.eqv a b))):=⟨λpins s σ H x y v u a b Q I rx ry ra rb q=>by
 obtain⟨as,e1⟩:=ra.reads I rx q.1.can;obtain⟨bs,e2⟩:=rb.reads I ry q.2.1.can;exact eq_dataH e1 e2 q.1 q.2.1 hu ⟨.bl _,H,_,I,rfl,Same.refl _,.bl,q.2.2⟩⟩
theorem zvr(hu:X.A.units+64<cLine):OpD X (compareOp .NotEq) (λa b Q=>Lay a/\Lay b/\Q (.bool (!PyData.eqv a b))):=⟨λpins s σ H x y v u a b Q I rx ry ra rb q=>by
 obtain⟨as,e1⟩:=ra.reads I rx q.1.can;obtain⟨bs,e2⟩:=rb.reads I ry q.2.1.can;exact ne_dataH e1 e2 q.1 q.2.1 hu ⟨.bl _,H,_,I,rfl,Same.refl _,.bl,q.2.2⟩⟩
theorem zrb{f:D->D->Bool}(neg:Bool)(op:CmpOp)(h:OpR X (compareOp op) (λx y H Q=>zsb x y=true/\Q (.bl (if neg then !decide (x=y) else decide (x=y))) H)):
  OpD X (compareOp op) (λa b Q=>match a,b with
   |.int i,.int j=>Q (.bool (if neg then !decide (i=j) else decide (i=j)))
   |.str i,.str j=>Q (.bool (if neg then !decide (i=j) else decide (i=j)))
   |.bool i,.bool j=>Q (.bool (if neg then !decide (i=j) else decide (i=j)))
   |_,_=>False):=OpD.of h λx y H a b Q ra rb q=>by
 cases a with
 |int i=>cases b with
  |int j=>
   cases ra.int;cases rb.int;have e:decide (V.int i=V.int j)=decide (i=j):=by rw[Bool.eq_iff_iff];simp
   rw[e];exact⟨rfl,.bool _,Same.refl _,.bl,q⟩
  |_=>exact q.elim
 |str i=>cases b with
  |str j=>
   cases ra.str;cases rb.str;have e:decide (V.str i=V.str j)=decide (i=j):=by rw[Bool.eq_iff_iff];simp
   rw[e];exact⟨rfl,.bool _,Same.refl _,.bl,q⟩
  |_=>exact q.elim
 |bool i=>cases b with
  |bool j=>
   cases ra.bool;cases rb.bool;have e:decide (V.bl i=V.bl j)=decide (i=j):=by rw[Bool.eq_iff_iff];simp
   rw[e];exact⟨rfl,.bool _,Same.refl _,.bl,q⟩
  |_=>exact q.elim
 |_=>exact q.elim
theorem qz{k:Nat}(hr:Room k X.A):OpD X (compareOp .Eq) gEq:=⟨λpins s σ H x y v u a b Q I rx ry ra rb q=>by
 have G:=(zvq (X:=X) hr.units).run pins s σ H x y v u a b Q I rx ry ra rb;have S:=(zrb (X:=X) (f:=λ_ _=>true) false .Eq zqz).run pins s σ H x y v u a b Q I rx ry ra rb
 cases a <;> cases b <;> first|exact S q|exact G q⟩
theorem zcl{k:Nat}(hr:Room k X.A):OpD X (compareOp .NotEq) gNe:=⟨λpins s σ H x y v u a b Q I rx ry ra rb q=>by
 have G:=(zvr (X:=X) hr.units).run pins s σ H x y v u a b Q I rx ry ra rb;have S:=(zrb (X:=X) (f:=λ_ _=>true) true .NotEq zu0).run pins s σ H x y v u a b Q I rx ry ra rb
 cases a <;> cases b <;> first|exact S q|exact G q⟩
def isNone:D->Bool
 |.none=>true
 |_=>false
def zmt:DOp:=λa b Q=>match b with
 |.none=>Q (.bool (!isNone a))
 |_=>False
theorem zh5{K:PySem.W.Frag}{H:Hp}{d:D}{v:V}(h:RepT K H d v):decide (v=.non)=isNone d:=by
 rcases h with h |⟨xs,rfl,a,vs,rfl,_⟩
 ·cases h <;> rfl
 ·rfl
theorem zs4:OpD X (compareOp .IsNot) zmt:=OpD.of zo1 λx y H a b Q ra rb q=>by
 cases b with
 |none=>cases rb.none;refine⟨rfl,.bool (!isNone a),Same.refl _,?_,q⟩;rw[zh5 ra];exact .bl
 |_=>exact q.elim
end
structure CallD(X:Cx)(f:Value)(g:List D->(D->Prop)->Prop):Prop where
 run:∀(pins:List (Addr×Obj)) (s:Shared) (σ:St) (H:Hp) (vs:List V) (us:List Value) (ds:List D) (Q:D->Prop),Inv X pins σ H s->Vals vs us->RepTs X.K H ds vs->g ds Q->wpAny (model X.prog X.w) X.A (call f us) (DEnd X pins σ H Q) X.xe s
structure CallF(X:Cx)(f:Value)(g:List D->(List D->Prop)->Prop):Prop where
 run:∀(pins:List (Addr×Obj)) (s:Shared) (σ:St) (H:Hp) (vs:List V) (us:List Value) (ds:List D) (Q:List D->Prop),Inv X pins σ H s->Vals vs us->RepTs X.K H ds vs->g ds Q->wpAny (model X.prog X.w) X.A (call f us) (zci X pins σ H Q) X.xe s
def dCB(g:List D->(D->Prop)->Prop)(t:DTF):DTE:=λσ Q=>t σ λds=>g ds Q
def dCF(g:List D->(List D->Prop)->Prop)(t:DTF):DTF:=λσ Q=>t σ λds=>g ds Q
section
variable {X:Cx}{f:Value}{g:List D->(D->Prop)->Prop}{gf:List D->(List D->Prop)->Prop}{e:Expr}{es:List Expr}{t:DTF}{x:Str}{p pos:Pos}
theorem CallD.of{r:List V->Hp->VK->Prop}(h:xy X f r)(k:∀vs H ds Q,RepTs X.K H ds vs->g ds Q->r vs H (λv H'=>∃d,Same H H'/\Rep X.K H' d v/\Q d)):CallD X f g :=
 ⟨λpins s σ H vs us ds Q I rv rd q=>thn (h pins s σ H vs us _ I rv (k vs H ds Q rd q)) λw s' zq93=>by obtain⟨z,H',I',rz,d,sm,rp,qd⟩:=zq93;exact⟨z,H',d,I',rz,sm,rp,qd⟩⟩
theorem CallF.of{r:List V->Hp->VK->Prop}(h:xy X f r)(k:∀vs H ds Q,RepTs X.K H ds vs->gf ds Q->r vs H (λv H'=>∃p vs xs,v=.ref p/\Same H H'/\H p=none/\H' p=some (.lst vs)/\Reps X.K H' xs vs/\Q xs)):CallF X f gf :=
 ⟨λpins s σ H vs us ds Q I rv rd q=>thn (h pins s σ H vs us _ I rv (k vs H ds Q rd q)) λw s' zq93=>by obtain⟨z,H',I',rz,p,ws,xs,ez,sm,n,e,rp,qd⟩:=zq93;exact⟨p,H',ws,xs,by subst ez;exact rz,I',sm,n,e,rp,qd⟩⟩
theorem CallD.cr(h:CallD X f g):xy X f (λvs H Q=>∃ds QD,RepTs X.K H ds vs/\g ds QD/\∀v H' d,Same H H'->Rep X.K H' d v->QD d->Q v H') :=
 λpins s σ H vs us Q I rv zq2=>by obtain⟨ds,QD,rd,q,k⟩:=zq2;exact thn (h.run pins s σ H vs us ds QD I rv rd q) λw s' zq0=>by obtain⟨z,H',d,I',rz,sm,rp,qd⟩:=zq0;exact⟨z,H',I',rz,k z H' d sm rp qd⟩
theorem CallF.cr(h:CallF X f gf):xy X f (λvs H Q=>∃ds QD,RepTs X.K H ds vs/\gf ds QD/\∀a H' ws xs,Same H H'->H a=none->H' a=some (.lst ws)->Reps X.K H' xs ws->QD xs->Q (.ref a) H') :=
 λpins s σ H vs us Q I rv zq2=>by obtain⟨ds,QD,rd,q,k⟩:=zq2;exact thn (h.run pins s σ H vs us ds QD I rv rd q) λw s' zq0=>by obtain⟨a,H',ws,xs,ew,I',sm,n,e,rp,qd⟩:=zq0;exact⟨.ref a,H',I',ew,k a H' ws xs sm n e rp qd⟩
theorem yt{id:String}(hc:CallD X (.builtin id) g)(hg:Gl X x)(hm:X.mg x=none)(hv:bootBuiltins x=some (.builtin id))(ha:DAv X (e::es) t)(hn:x ≠ "__name__" := by decide)(hdb:(x ==("__debug__" : Str))=false:=by decide)
  (he:starEach (e::es) X.env=(false,eval e X.env)::starEach es X.env:=by rfl) (hpl:(backTo pos (starEach es X.env)).any (·.1)=false:=by rfl):DE X (.Call (.Name x p) (e::es) [] pos) (dCB g t) :=
 DE.of (h9 hc.cr hg hm hv ha.pa hn hdb he hpl) λσ H H₀ σD QD ok q=>⟨H₀,σD,_,ok,q,λvs H1 ds s1 r1 q1=>⟨ds,_,r1,q1,λv H' d s2 rp qd=>⟨d,s1.trans s2,rp,qd⟩⟩⟩
theorem zgd{id:String}(hc:CallF X (.builtin id) gf)(hg:Gl X x)(hm:X.mg x=none)(hv:bootBuiltins x=some (.builtin id))(ha:DAv X (e::es) t)(hn:x ≠ "__name__" := by decide)(hdb:(x ==("__debug__" : Str))=false:=by decide)
  (he:starEach (e::es) X.env=(false,eval e X.env)::starEach es X.env:=by rfl) (hpl:(backTo pos (starEach es X.env)).any (·.1)=false:=by rfl):DF X (.Call (.Name x p) (e::es) [] pos) (dCF gf t) :=
 DF.of (h9 hc.cr hg hm hv ha.pa hn hdb he hpl) λσ H H₀ σD QD ok q=>⟨H₀,σD,_,ok,q,λvs H1 ds s1 r1 q1=>⟨ds,_,r1,q1,λa H' ws xs s2 n e rp qd=>⟨a,ws,xs,rfl,s1.trans s2,s1.free n,e,rp,qd⟩⟩⟩
theorem xj{id:String}(hc:CallD X (.type id) g)(hg:Gl X x)(hm:X.mg x=none)(hv:bootBuiltins x=some (.type id))(ha:DAv X (e::es) t)(hn:x ≠ "__name__" := by decide)(hdb:(x ==("__debug__" : Str))=false:=by decide)
  (he:starEach (e::es) X.env=(false,eval e X.env)::starEach es X.env:=by rfl) (hpl:(backTo pos (starEach es X.env)).any (·.1)=false:=by rfl):DE X (.Call (.Name x p) (e::es) [] pos) (dCB g t) :=
 DE.of (zdv hc.cr hg hm hv ha.pa hn hdb he hpl) λσ H H₀ σD QD ok q=>⟨H₀,σD,_,ok,q,λvs H1 ds s1 r1 q1=>⟨ds,_,r1,q1,λv H' d s2 rp qd=>⟨d,s1.trans s2,rp,qd⟩⟩⟩
theorem zd3{id:String}(hc:CallF X (.type id) gf)(hg:Gl X x)(hm:X.mg x=none)(hv:bootBuiltins x=some (.type id))(ha:DAv X (e::es) t)(hn:x ≠ "__name__" := by decide)(hdb:(x ==("__debug__" : Str))=false:=by decide)
  (he:starEach (e::es) X.env=(false,eval e X.env)::starEach es X.env:=by rfl) (hpl:(backTo pos (starEach es X.env)).any (·.1)=false:=by rfl):DF X (.Call (.Name x p) (e::es) [] pos) (dCF gf t) :=
 DF.of (zdv hc.cr hg hm hv ha.pa hn hdb he hpl) λσ H H₀ σD QD ok q=>⟨H₀,σD,_,ok,q,λvs H1 ds s1 r1 q1=>⟨ds,_,r1,q1,λa H' ws xs s2 n e rp qd=>⟨a,ws,xs,rfl,s1.trans s2,s1.free n,e,rp,qd⟩⟩⟩
theorem RepTs.one{K:PySem.W.Frag}{H:Hp}{d:D}{vs:List V}(h:RepTs K H [d] vs):∃v,vs = [v]/\RepT K H d v:=by
 cases h with
 |cons r t=>cases t;exact⟨_,rfl,r⟩
theorem RepTs.two{K:PySem.W.Frag}{H:Hp}{d e:D}{vs:List V}(h:RepTs K H [d,e] vs):∃v w,vs = [v,w]/\RepT K H d v/\RepT K H e w:=by
 cases h with
 |cons r t=>cases t with
  |cons r2 t=>cases t;exact⟨_,_,rfl,r,r2⟩
def zs5:List D->(D->Prop)->Prop
 |[.str x],Q=>x.length<=sizeLine/\Q (.int x.length)
 |[.list xs],Q=>Q (.int xs.length)
 |[.tuple xs],Q=>Q (.int xs.length)
 |_,_=>False
theorem zab:CallD X (.builtin "len") zs5:=CallD.of zmb λvs H ds Q rd q=>by
 match ds,q,rd with
 |[.str x],q,rd=>
  obtain⟨v,rfl,r⟩:=rd.one
  cases r.str;exact⟨_,x.length,rfl,⟨q.1,rfl⟩,_,Same.refl _,.int,q.2⟩
 |[.list xs],q,rd=>
  obtain⟨v,rfl,r⟩:=rd.one;obtain⟨a,vs,rfl,h,r⟩:=r.list.sq;exact⟨_,xs.length,rfl,.inl ⟨vs,h,r.length⟩,_,Same.refl _,.int,q⟩
 |[.tuple xs],q,rd=>
  obtain⟨v,rfl,r⟩:=rd.one;obtain⟨a,vs,rfl,h,r⟩:=r.tuple;exact⟨_,xs.length,rfl,.inr ⟨vs,h,r.length⟩,_,Same.refl _,.int,q⟩
def zs6:List D->(D->Prop)->Prop
 |[.int i,.int j],Q=>Q (.int (min i j))
 |_,_=>False
def zs7:List D->(D->Prop)->Prop
 |[.int i,.int j],Q=>Q (.int (max i j))
 |_,_=>False
theorem zge(hc:X.calm=true):CallD X (.builtin "min") zs6:=CallD.of (zk1 hc) λvs H ds Q rd q=>by
 match ds,q,rd with
 |[.int i,.int j],q,rd=>
  obtain⟨v,w,rfl,r1,r2⟩:=rd.two
  cases r1.int
  cases r2.int;refine⟨i,j,rfl,_,Same.refl _,.int,?_⟩;have e:(if j<i then j else i)=min i j:=by split <;> omega
  rw[e];exact q
theorem zrc(hc:X.calm=true):CallD X (.builtin "max") zs7:=CallD.of (zk0 hc) λvs H ds Q rd q=>by
 match ds,q,rd with
 |[.int i,.int j],q,rd=>
  obtain⟨v,w,rfl,r1,r2⟩:=rd.two
  cases r1.int
  cases r2.int;refine⟨i,j,rfl,_,Same.refl _,.int,?_⟩;have e:(if j > i then j else i)=max i j:=by split <;> omega
  rw[e];exact q
def zs8:List D->(D->Prop)->Prop
 |[.int i],Q=>Q (.int i)
 |[.bool b],Q=>Q (.int (if b then 1 else 0))
 |_,_=>False
theorem zvs:CallD X (.type "int") zs8:=CallD.of zk2 λvs H ds Q rd q=>by
 match ds,q,rd with
 |[.int i],q,rd=>
  obtain⟨v,rfl,r⟩:=rd.one
  cases r.int;exact .inl ⟨i,rfl,_,Same.refl _,.int,q⟩
 |[.bool i],q,rd=>
  obtain⟨v,rfl,r⟩:=rd.one
  cases r.bool;exact .inr ⟨i,rfl,_,Same.refl _,.int,q⟩
def zmu:List D->(List D->Prop)->Prop
 |[.list xs],Q=>Q xs
 |[.tuple xs],Q=>Q xs
 |_,_=>False
theorem zmv:CallF X (.type "list") zmu:=CallF.of zeu λvs H ds Q rd q=>by
 match ds,q,rd with
 |[.list xs],q,rd=>
  obtain⟨v,rfl,r⟩:=rd.one;obtain⟨a,vs,rfl,h,r⟩:=r.list.sq;exact⟨a,vs,rfl,.inl h,λl hl=>⟨l,vs,xs,rfl,yc hl _,hl,zx,r.same (yc hl _),q⟩⟩
 |[.tuple xs],q,rd=>
  obtain⟨v,rfl,r⟩:=rd.one;obtain⟨a,vs,rfl,h,r⟩:=r.tuple;exact⟨a,vs,rfl,.inr h,λl hl=>⟨l,vs,xs,rfl,yc hl _,hl,zx,r.same (yc hl _),q⟩⟩
def zh6:List D->(D->Prop)->Prop
 |[.list xs],Q=>Q (.tuple xs)
 |[.tuple xs],Q=>Q (.tuple xs)
 |_,_=>False
theorem va:CallD X (.type "tuple") zh6:=CallD.of zdi λvs H ds Q rd q=>by
 match ds,q,rd with
 |[.list xs],q,rd=>
  obtain⟨v,rfl,r⟩:=rd.one;obtain⟨a,vs,rfl,h,r⟩:=r.list.sq;exact⟨a,vs,rfl,.inl ⟨h,λl hl=>⟨_,yc hl _,.tup (SqT.of zx) (r.same (yc hl _)),q⟩⟩⟩
 |[.tuple xs],q,rd=>
  obtain⟨v,rfl,r⟩:=rd.one;obtain⟨a,vs,rfl,h,r⟩:=r.tuple;exact⟨a,vs,rfl,.inr ⟨h,_,Same.refl _,.tup h r,q⟩⟩
def jr:List D->Option (List Int)
 |[]=>some []
 |.int i::r=>(jr r).map (i :: ·)
 |_::_=>none
def qe:List D->Option (List Bool)
 |[]=>some []
 |.bool i::r=>(qe r).map (i :: ·)
 |_::_=>none
theorem zd4(ns:List Int):jr (ns.map PyData.int)=some ns:=by
 induction ns with
 |nil=>rfl
 |cons n ns ih=>simp[jr,ih]
theorem jx(ns:List Bool):qe (ns.map PyData.bool)=some ns:=by
 induction ns with
 |nil=>rfl
 |cons n ns ih=>simp[qe,ih]
theorem zaz{K:PySem.W.Frag}{H:Hp}:∀{xs:List D}{vs:List V}{ns:List Int},Reps K H xs vs->jr xs=some ns->vs=ns.map V.int
 |[],_,ns,r,e=>by cases r;simp[jr]at e;subst e;rfl
 |x::xs,_,ns,r,e=>by
  cases r with
  |cons r t=>
   cases x with
   |int i=>
    simp only[jr,Option.map_eq_some_iff]at e;obtain⟨ms,e1,rfl⟩:=e
    cases r;rw[zaz t e1];rfl
   |_=>simp[jr]at e
theorem jy{K:PySem.W.Frag}{H:Hp}:∀{xs:List D}{vs:List V}{ns:List Bool},Reps K H xs vs->qe xs=some ns->vs=ns.map V.bl
 |[],_,ns,r,e=>by cases r;simp[qe]at e;subst e;rfl
 |x::xs,_,ns,r,e=>by
  cases r with
  |cons r t=>
   cases x with
   |bool i=>
    simp only[qe,Option.map_eq_some_iff]at e;obtain⟨ms,e1,rfl⟩:=e
    cases r;rw[jy t e1];rfl
   |_=>simp[qe]at e
def zs9:List D->(D->Prop)->Prop
 |[.list xs],Q=>∃ns,qe xs=some ns/\Q (.bool (ns.all id))
 |_,_=>False
def zta:List D->(D->Prop)->Prop
 |[.list xs],Q=>∃ns,qe xs=some ns/\Q (.bool (ns.any id))
 |_,_=>False
theorem zvt(hc:X.calm=true):CallD X (.builtin "all") zs9:=CallD.of (zmh hc) λvs H ds Q rd q=>by
 match ds,q,rd with
 |[.list xs],q,rd=>
  obtain⟨v,rfl,r⟩:=rd.one;obtain⟨a,vs,rfl,h,r⟩:=r.list.sq;obtain⟨ns,e,q⟩:=q
  cases jy r e;exact⟨a,ns,rfl,h,_,Same.refl _,.bl,q⟩
theorem zrd(hc:X.calm=true):CallD X (.builtin "any") zta:=CallD.of (zmi hc) λvs H ds Q rd q=>by
 match ds,q,rd with
 |[.list xs],q,rd=>
  obtain⟨v,rfl,r⟩:=rd.one;obtain⟨a,vs,rfl,h,r⟩:=r.list.sq;obtain⟨ns,e,q⟩:=q
  cases jy r e;exact⟨a,ns,rfl,h,_,Same.refl _,.bl,q⟩
def isD:String->D->Bool
 | "int",.int _=>true
 | "int",.bool _=>true
 | "bool",.bool _=>true
 | "str",.str _=>true
 | "list",.list _=>true
 | "tuple",.tuple _=>true
 | "dict",.dict _=>true
 |_,_=>false
def tyD:D->String
 |.none=> "NoneType"
 |.bool _=> "bool"
 |.int _=> "int"
 |.str _=> "str"
 |.list _=> "list"
 |.tuple _=> "tuple"
 |.dict _=> "dict"
theorem zh7{pins:List (Addr×Obj)}{σ:St}{H:Hp}{s:Shared}{A:Around}{E:Value->Shared->Prop}{Q:Value->Shared->Prop}{c:Value}{b:Bool}{d:D}{v:V}{u:Value}(I:Inv X pins σ H s)(rp:RepT X.K H d v)(ru:RelV v u)(e:PySem.W.kitOne X.K (.type (tyD d)) c=some b)
  (h:∀tk,Q (.bool b) { s with toks:=tk }):wpAny (model X.prog X.w) A (call (.builtin "isinstance") [u,c]) Q E s:=by
 rcases rp with rp |⟨xs,rfl,a,vs,rfl,hr,_⟩
 ·cases rp with
  |non=>cases ru;exact PySem.W.kia_one PySem.W.kitx_none I.kIn True.intro e (λz=>nomatch z) h
  |bl=>cases ru;exact PySem.W.kia_one PySem.W.kitx_bool I.kIn True.intro e (λz=>nomatch z) h
  |int=>obtain⟨t,rfl⟩:=ru;exact PySem.W.kia_one PySem.W.kitx_int I.kIn True.intro e (λz=>nomatch z) h
  |str=>obtain⟨t,rfl⟩:=ru;exact PySem.W.kia_one PySem.W.kitx_str I.kIn True.intro e (λz=>nomatch z) h
  |tup q r=>
   cases ru;obtain⟨its,_,⟨o,h1,h2,_⟩,_⟩:=I.tuple q;exact PySem.W.kia_one PySem.W.kitx_tuple I.kIn ⟨o,h1,h2⟩ e (λz=>nomatch z) h
  |lst q r=>
   cases ru;obtain⟨_,_,_,n,_,h1⟩:=I.hok _ _ q;exact PySem.W.kia_one PySem.W.kitx_list I.kIn ⟨_,h1,rfl⟩ e (λz=>nomatch z) h
  |dic q r=>
   cases ru;obtain⟨_,_,_,vs,_,o,es,ep,h1,h2,_⟩:=I.hok _ _ q;exact PySem.W.kia_one PySem.W.kitx_dict I.kIn ⟨o,h1,h2.1⟩ e (λz=>nomatch z) h
 ·cases ru;obtain⟨_,_,n,_,h1⟩:=hr.ok I.hok;exact PySem.W.kia_one PySem.W.kitx_list I.kIn ⟨_,h1,rfl⟩ e (λz=>nomatch z) h
def dIs(n:String)(t:DTE):DTE:=λσ Q=>t σ λd=>Q (.bool (isD n d))
theorem za0{n:String}{ta:DTE}{x2:Str}{p2:Pos}(hk:∀d:D,PySem.W.kitOne X.K (.type (tyD d)) (.type n)=some (isD n d))(hg:Gl X "isinstance")(hm:X.mg "isinstance" = none)(hv:bootBuiltins "isinstance" = some (.builtin "isinstance"))(ha:DV X e ta)
  (hg2:Gl X x2) (hm2:X.mg x2=none) (hv2:bootBuiltins x2=some (.type n)) (hn2:x2 ≠ "__name__" := by decide) (hdb2:(x2 ==("__debug__" : Str))=false:=by decide)
  (he:starEach (e :: [.Name x2 p2]) X.env=(false,eval e X.env)::starEach [.Name x2 p2] X.env:=by rfl) (he2:starEach [.Name x2 p2] X.env=(false,eval (.Name x2 p2) X.env)::starEach [] X.env:=by rfl) (hpl:(backTo pos (starEach [.Name x2 p2] X.env)).any (·.1)=false:=by rfl):DE X (.Call (.Name "isinstance" p) [e,.Name x2 p2] [] pos) (dIs n ta):=by
 have hc:xy X (.builtin "isinstance") (λvs H Q=>∃d v,vs = [v,.ty n]/\RepT X.K H d v/\Q (.bl (isD n d)) H):=λpins s σ H xs us Q I rv zq28=>by
  obtain⟨d,v,e,r,q⟩:=zq28;subst e;obtain⟨u,w,rfl,r1,r2⟩:=rv.two
  cases r2;exact zh7 I r r1 (hk d) λtk=>⟨.bl (isD n d),H,I.tok tk,rfl,q⟩
 refine DE.of (h9 hc hg hm hv (xh ha.pe (xh (zox (v:=.ty n) hg2 hm2 hv2 rfl hn2 hdb2) wm he2) he) (by decide) (by decide) he hpl) λσ H H₀ σD QD ok q=>?_;exact⟨H₀,σD,_,ok,q,λv H1 d s1 r1 q1=>⟨d,v,rfl,r1,_,s1,.bl,q1⟩⟩
theorem zvu{K:PySem.W.Frag}(d:D):PySem.W.kitOne K (.type (tyD d)) (.type "int")=some (isD "int" d):=by cases d <;> rfl
theorem ztb{K:PySem.W.Frag}(d:D):PySem.W.kitOne K (.type (tyD d)) (.type "bool")=some (isD "bool" d):=by cases d <;> rfl
theorem zvv{K:PySem.W.Frag}(d:D):PySem.W.kitOne K (.type (tyD d)) (.type "str")=some (isD "str" d):=by cases d <;> rfl
theorem ze1{K:PySem.W.Frag}(d:D):PySem.W.kitOne K (.type (tyD d)) (.type "tuple")=some (isD "tuple" d):=by cases d <;> rfl
variable {a b:Expr}{ta tb:DTE}
def gIx:DOp
 |.list xs,.int i,Q=>∃d,atI xs i=some d/\Q d
 |.tuple xs,.int i,Q=>∃d,atI xs i=some d/\Q d
 |.str x,.int i,Q=>x.length<=sizeLine/\∃c,atI x.cps.toList i=some c/\Q (.str ⟨#[c]⟩)
 |_,_,_=>False
theorem zjr{K:PySem.W.Frag}{H:Hp}{xs:List D}{vs:List V}{i:Int}{d:D}(r:Reps K H xs vs)(h:atI xs i=some d):∃v,atI vs i=some v/\Rep K H d v:=by
 unfold atI at h ⊢;rw[<-r.length]
 cases e:ixN xs.length i with
 |none=>rw[e]at h;cases h
 |some j=>
  rw[e]at h;exact r.get h
theorem yd(ha:DV X a ta)(hb:DE X b tb)(hs:zer b):DE X (.Subscript a b pos) (dOp gIx ta tb) :=
 DE.of (zbp zsl ha.pe hb.pe hs) λσ H H₀ σD QD ok q=>⟨H₀,σD,_,ok,q,λv H1 d s1 r1 q1=>⟨H₀,σD,_,ok.after s1,q1,λw H2 d2 s2 r2 q2=>by
  have r1:=r1.same s2;have sm:=s1.trans s2
  cases d2 with
  |int i=>
   cases r2
   cases d with
   |list xs=>
    obtain⟨l,vs,rfl,hl,r⟩:=r1.list.sq;obtain⟨d,e,q⟩:=q2;obtain⟨x,e1,e2⟩:=zjr r e;exact .inl ⟨l,vs,i,x,rfl,rfl,hl,e1,d,sm,e2,q⟩
   |tuple xs=>
    obtain⟨l,vs,rfl,hl,r⟩:=r1.tuple;obtain⟨d,e,q⟩:=q2;obtain⟨x,e1,e2⟩:=zjr r e;exact .inr (.inl ⟨l,vs,i,x,rfl,rfl,hl,e1,d,sm,e2,q⟩)
   |str x=>
    cases r1.str;obtain⟨hz,c,e,q⟩:=q2;exact .inr (.inr ⟨x,i,c,rfl,rfl,hz,e,_,sm,.str,q⟩)
   |_=>exact q2.elim
  |_=>cases d <;> exact q2.elim⟩⟩
abbrev DTO:=DSt->(Option Int->Prop)->Prop
structure DO(X:Cx)(e:Option Expr)(t:DTO):Prop where
 po:PO X e (λσ H Q=>∃H₀ σD QD,DOk X.K H₀ H σD σ/\t σD QD/\∀o H',Same H H'->QD o->Q o H')
def ze2:DTO:=λ_ Q=>Q none
def zmw(t:DTE):DTO:=λσ Q=>t σ λd=>match d with
 |.int i=>Q (some i)
 |_=>False
theorem ja:DO X none ze2:=⟨λpins s σ H Q I zq40=>by obtain⟨H₀,σD,QD,ok,q,k⟩:=zq40;exact zo4 pins s σ H Q I (k none H (Same.refl _) q)⟩
theorem xw(h:DE X a ta):DO X (some a) (zmw ta):=⟨λpins s σ H Q I ⟨H₀,σD,QD,ok,q,k⟩=>zo5 h.pe pins s σ H Q I ⟨H₀,σD,_,ok,q,λv H1 d s1 r1 q1=>by
 cases d with
 |int i=>cases r1;exact⟨i,rfl,k _ _ s1 q1⟩
 |_=>exact q1.elim⟩⟩
def y0(xs:List D)(lo hi:Option Int):List D:=(xs.drop (HT.sIx xs.length 0 lo)).take (HT.sIx xs.length xs.length hi-HT.sIx xs.length 0 lo)
theorem Reps.cut{K:PySem.W.Frag}{H:Hp}{xs:List D}{vs:List V}(r:Reps K H xs vs)(lo hi:Option Int):Reps K H (y0 xs lo hi) (zdg vs lo hi):=by
 unfold y0 zdg;rw[<-r.length];exact(r.drop _).take _
variable {lo hi:Option Expr}{tl th:DTO}{p2:Pos}
theorem zpi:SlR X (λx lo hi H Q=>∃a xs,x=.ref a/\SqT X.K H a xs/\∀p H',Same H H'->SqT X.K H' p (zdg xs lo hi)->Q (.ref p) H'):=by
 intro pins s σ H x v vl vu lo hi sl Q I rx hs pl pu h;obtain⟨a,xs,rfl,hx,q⟩:=h
 by_cases hw:HT.sIx xs.length 0 lo=0/\HT.sIx xs.length xs.length hi=xs.length
 ·cases rx;obtain⟨its,r,ht,hz⟩:=I.tuple hx;have hlen:its.toArray.size=xs.length:=by rw[List.size_toArray];exact r.length.symm
  refine⟨"tuple",_,PyProof.Rows.slot_tuple_getitem.lookup,ht.typeIs,zld ht hs pl pu (by rw[hlen];exact hw.1) (by rw[hlen];exact hw.2) ⟨.ref a,H,I,rfl,q a H (Same.refl H) ?_⟩⟩;unfold zdg;rw[hw.1,hw.2,List.drop_zero,Nat.sub_zero,List.take_length];exact hx
 ·exact zsj pins s σ H (.ref a) v vl vu lo hi sl Q I rx hs pl pu ⟨a,xs,rfl,hx,hw,λp hp=>q p _ (yc hp _) (SqT.of zx)⟩
def dSl(te:DTE)(tl th:DTO):DTE:=λσ Q=>te σ λd=>tl σ λl=>th σ λu=>match d with
 |.list xs=>Q (.list (y0 xs l u))
 |.tuple xs=>Q (.tuple (y0 xs l u))
 |_=>False
theorem wu(he:DV X e ta)(hl:DO X lo tl)(hu:DO X hi th):DE X (.Subscript e (.Slice lo hi none p2) pos) (dSl ta tl th):=⟨λpins s σ H H₀ σD Q I ok q=>by
 refine thn (zf5 (SlR.or zjn zpi) he.pe hl.po hu.po pins s σ H (λv H'=>(∃d,Same H H'/\Rep X.K H' d v/\Q d)\/∃p vs xs,v=.ref p/\Same H H'/\H p=none/\H' p=some (.lst vs)/\Reps X.K H' xs vs/\Q (.list xs)) I ?_) λu s' ⟨v,H',I',r,z⟩=>?_
 ·exact⟨H₀,σD,_,ok,q,λv H1 d s1 r1 q1=>⟨H₀,σD,_,ok.after s1,q1,λl H2 s2 q2=>⟨H₀,σD,_,(ok.after s1).after s2,q2,λu H3 s3 q3=>by
   cases d with
   |list xs=>
    obtain⟨b,vs,rfl,hb,r⟩:=((r1.same s2).same s3).list.sq;exact .inl ⟨b,vs,rfl,hb,λp hp=>.inr ⟨p,_,_,rfl,((s1.trans s2).trans s3).trans (yc hp _),((s1.trans s2).trans s3).free hp,zx,(r.cut l u).same (yc hp _),q3⟩⟩
   |tuple xs=>
    obtain⟨b,vs,rfl,hb,r⟩:=((r1.same s2).same s3).tuple;exact .inr ⟨b,vs,rfl,hb,λp H4 s4 e4=>.inl ⟨_,((s1.trans s2).trans s3).trans s4,.tup e4 ((r.cut l u).same s4),q3⟩⟩
   |_=>exact q3.elim⟩⟩⟩
 ·rcases z with⟨d,sm,rp,qd⟩ |⟨p,vs,xs,rfl,sm,n,e,rp,qd⟩
  ·exact⟨v,H',d,I',r,sm,rp,qd⟩
  ·obtain⟨H'',J,sm',r'⟩:=zex I' sm n e rp;exact⟨.ref p,H'',.list xs,J,r,sm',r',qd⟩⟩
def ze3(i:Nat)(tl th:DTO):DTF:=λσ Q=>match σ[i]? with
 |some (some (.scr ns))=>tl σ λl=>th σ λu=>Q ((y0 (ns.map PyData.int) l u))
 |_=>False
theorem ztc(i:Nat){x:Str}{pos':Pos}(hl:DO X lo tl)(hu:DO X hi th)(hN:X.N[i]?=some x:=by rfl)(hv:Vis X.env.scope x:=by first|exact Or.inl rfl|exact Or.inr (Or.inl rfl)|exact Or.inr (Or.inr rfl))(hd:(x ==("__debug__" : Str))=false:=by decide)
  (hcd:(x ==("__classdict__" : Str))=false:=by decide):DF X (.Subscript (.Name x pos') (.Slice lo hi none p2) pos) (ze3 i tl th) :=
 DF.of (zf5 zjn (x3 (i:=i) hN hv hd hcd) hl.po hu.po) λσ H H₀ σD QD ok q=>by
  unfold ze3 at q
  split at q
  ·next ns e=>
   obtain⟨b,e1,hb⟩:=ok.scr e;exact⟨_,e1,H₀,σD,_,ok,q,λl H2 s2 q2=>⟨H₀,σD,_,ok.after s2,q2,λu H3 s3 q3=>⟨b,_,rfl,s3.seq (s2.seq hb),λp hp=>⟨p,_,_,rfl,(s2.trans s3).trans (yc hp _),(s2.trans s3).free hp,zx,Reps.ints.cut l u,q3⟩⟩⟩⟩
  ·exact q.elim
def zb5(i:Nat):DTE:=λσ Q=>match σ[i]? with
 |some (some (.scr ns))=>Q (.int ns.length)
 |_=>False
theorem zlf(i:Nat){x:Str}{pos':Pos}(hg:Gl X "len")(hm:X.mg "len" = none)(hN:X.N[i]?=some x:=by rfl)(hv:Vis X.env.scope x:=by first|exact Or.inl rfl|exact Or.inr (Or.inl rfl)|exact Or.inr (Or.inr rfl))(hd:(x ==("__debug__" : Str))=false:=by decide)
  (hcd:(x ==("__classdict__" : Str))=false:=by decide):DE X (.Call (.Name "len" p) [.Name x pos'] [] pos) (zb5 i) :=
 DE.of (h9 zet hg hm PySem.boot_len (xh (x3 (i:=i) hN hv hd hcd) wm)) λσ H H₀ σD QD ok q=>by
  unfold zb5 at q
  split at q
  ·next ns e=>
   obtain⟨b,e1,hb⟩:=ok.scr e;exact⟨_,e1,b,_,rfl,.inl hb,_,Same.refl _,.int,by rw[List.length_map];exact q⟩
  ·exact q.elim
def ze4(i:Nat)(tb:DTE):DTE:=λσ Q=>match σ[i]? with
 |some (some (.scr ns))=>tb σ λd=>match d with
  |.int k=>∃n,atI ns k=some n/\Q (.int n)
  |_=>False
 |_=>False
theorem zpj{α β:Type}(f:α->β)(xs:List α)(i:Int):atI (xs.map f) i=(atI xs i).map f:=by
 unfold atI;rw[List.length_map]
 cases ixN xs.length i with
 |none=>rfl
 |some j=>simp
theorem zmx(i:Nat){x:Str}{pos':Pos}(hb:DE X b tb)(hs:zer b)(hN:X.N[i]?=some x:=by rfl)(hv:Vis X.env.scope x:=by first|exact Or.inl rfl|exact Or.inr (Or.inl rfl)|exact Or.inr (Or.inr rfl))(hd:(x ==("__debug__" : Str))=false:=by decide)
  (hcd:(x ==("__classdict__" : Str))=false:=by decide):DE X (.Subscript (.Name x pos') b pos) (ze4 i tb) :=
 DE.of (zbp ix_list (x3 (i:=i) hN hv hd hcd) hb.pe hs) λσ H H₀ σD QD ok q=>by
  unfold ze4 at q
  split at q
  ·next ns e=>
   obtain⟨b,e1,hb⟩:=ok.scr e;refine⟨_,e1,H₀,σD,_,ok,q,λw H2 d2 s2 r2 q2=>?_⟩
   cases d2 with
   |int k=>
    cases r2;obtain⟨n,en,q⟩:=q2;exact⟨b,_,k,.int n,rfl,rfl,s2.seq hb,by rw[zpj,en];rfl,_,s2,.int,q⟩
   |_=>exact q2.elim
  ·exact q.elim
end
structure ItOk(K:PySem.W.Frag)(Kp:Hp->Hp->Prop)(J:It)(H1:Hp)(ds:List D):Prop where
 go:∀H i d,Kp H1 H->ds[i]?=some d->J.go i H/\∀x H',J.yld i H x H'->Same H H'/\Rep K H' d x
 stop:∀H,Kp H1 H->J.stop ds.length H
theorem ItOk.weak{K:PySem.W.Frag}{J:It}{H1:Hp}{ds:List D}(h:ItOk K Pers J H1 ds):ItOk K Same J H1 ds:=⟨λH i d s=>h.go H i d s.pers,λH s=>h.stop H s.pers⟩
def cnI(K:PySem.W.Frag)(Kp:Hp->Hp->Prop)(t:DTF):TI:=λσ H R=>∃H₀ σD QD,DOk K H₀ H σD σ/\t σD QD/\∀J H1 ds,Same H H1->ItOk K Kp J H1 ds->QD ds->R J H1
structure DI(X:Cx)(tg iter:Expr)(t:DTF):Prop where
 pi:PI X tg iter (cnI X.K Pers t)
structure DIw(X:Cx)(tg iter:Expr)(t:DTF):Prop where
 pi:PI X tg iter (cnI X.K Same t)
section
variable {X:Cx}{tg iter e:Expr}{t:DTF}{te:DTE}{p pos:Pos}
theorem DI.w(h:DI X tg iter t):DIw X tg iter t:=⟨λpins s σ H R I zq56=>by obtain⟨H₀,σD,QD,ok,q,k⟩:=zq56;exact h.pi pins s σ H R I ⟨H₀,σD,QD,ok,q,λJ H1 ds s1 o qd=>k J H1 ds s1 o.weak qd⟩⟩
theorem zmy{l:Expr}{tl:TE}(hl:PE X l tl):PI X tg l (λσ H R=>tl σ H λx H1=>(∃a xs,x=.ref a/\SqL X.K H1 a xs/\R (Itl X.K a) H1)\/∃a xs,x=.ref a/\SqT X.K H1 a xs/\R (Itt X.K a) H1):=by
 intro pins s σ H R I h;refine thn (hl pins s σ H _ I h) λv s1 zr22=>?_;obtain⟨x,H1,I1,r1,q1⟩:=zr22;rcases q1 with⟨a,xs,e,hq,q⟩ |⟨a,xs,e,hq,q⟩
 ·subst e
  cases r1;obtain⟨its,rv,p,hz⟩:=I1.list hq;refine wpAny_pyIter_list p.isList ?_;refine⟨s1.heap.objs.size,[s1.heap.objs.size],_,_,H1,rfl,I1.kept (t':=s1.toks) λb o e=>Heap.get?_push_of_some _ e,zkw a _,⟨_,Heap.get?_push_size _ rfl,rfl,rfl⟩,λb hb=>?_,q⟩;have e:b=s1.heap.objs.size:=by simpa using hb
  subst e;exact I1.fpOk (Nat.le_refl _) (I1.hok.fresh (Nat.le_refl _))
 ·subst e
  cases r1;obtain⟨its,rv,p,hz⟩:=I1.tuple hq;refine wpAny_pyIter_tuple (show s1.heap.IsTuple a its.toArray from p) ?_;refine⟨s1.heap.objs.size,[s1.heap.objs.size],_,_,H1,rfl,I1.kept (t':=s1.toks) λb o e=>Heap.get?_push_of_some _ e,zhn a _,⟨_,Heap.get?_push_size _ rfl,rfl,rfl⟩,λb hb=>?_,q⟩;have e:b=s1.heap.objs.size:=by simpa using hb
  subst e;exact I1.fpOk (Nat.le_refl _) (I1.hok.fresh (Nat.le_refl _))
def zjs(te:DTE):DTF:=λσ Q=>te σ λd=>match d with
 |.list xs=>Q xs
 |.tuple xs=>Q xs
 |_=>False
theorem zmz{K:PySem.W.Frag}{Kp:Hp->Hp->Prop}{H1:Hp}{a:Addr}{xs:List D}{vs:List V}(kp:∀H,Kp H1 H->SqL K H a vs/\Reps K H xs vs):ItOk K Kp (Itl K a) H1 xs where
 go:=λH i d k e=>by
  obtain⟨hs,r⟩:=kp H k;obtain⟨v,e1,r1⟩:=r.get e;refine⟨⟨vs,v,hs,e1⟩,λx H' y=>?_⟩;obtain⟨rfl,y⟩:=y;have:=y vs hs;rw[e1]at this
  cases this;exact⟨Same.refl _,r1⟩
 stop:=λH k=>by
  obtain⟨hs,r⟩:=kp H k;exact⟨vs,hs,by rw[r.length];exact Nat.le_refl _⟩
theorem zm0{K:PySem.W.Frag}{Kp:Hp->Hp->Prop}{H1:Hp}{a:Addr}{xs:List D}{vs:List V}(kp:∀H,Kp H1 H->SqT K H a vs/\Reps K H xs vs):ItOk K Kp (Itt K a) H1 xs where
 go:=λH i d k e=>by
  obtain⟨hs,r⟩:=kp H k;obtain⟨v,e1,r1⟩:=r.get e;refine⟨⟨vs,v,hs,e1⟩,λx H' y=>?_⟩;obtain⟨rfl,y⟩:=y;have:=y vs hs;rw[e1]at this
  cases this;exact⟨Same.refl _,r1⟩
 stop:=λH k=>by
  obtain⟨hs,r⟩:=kp H k;exact⟨vs,hs,by rw[r.length];exact Nat.le_refl _⟩
theorem Pers.sqF{K:PySem.W.Frag}{H H':Hp}{a:Addr}{o:Obj}{vs:List V}(p:Pers H H')(h:H a=some (.frz o (.lst vs))):SqL K H' a vs:=.inl (.inr ⟨o,p _ _ h rfl⟩)
theorem ze5(h:DE X e te):DI X tg e (zjs te):=⟨λpins s σ H R I ⟨H₀,σD,QD,ok,q,k⟩=>zmy h.pe pins s σ H R I ⟨H₀,σD,_,ok,q,λv H1 d s1 r1 q1=>by
 cases d with
 |list xs=>
  cases r1 with
  |lst hf r=>exact .inl ⟨_,_,rfl,.inl (.inr ⟨_,hf⟩),k _ _ xs s1 (zmz λH' pr=>⟨pr.sqF hf,r.mono pr⟩) q1⟩
 |tuple xs=>
  cases r1 with
  |tup hf r=>exact .inr ⟨_,_,rfl,hf,k _ _ xs s1 (zm0 λH' pr=>⟨pr.sqT hf,r.mono pr⟩) q1⟩
 |_=>exact q1.elim⟩⟩
theorem RepL.sq'{K:PySem.W.Frag}{H H':Hp}{a:Addr}{vs:List V}(s:Same H H')(h:Rd H a (.lst vs)):SqL K H' a vs:=by
 rcases h with h |⟨o,h⟩
 ·exact .inl (.inl (s _ _ h))
 ·exact .inl (.inr ⟨o,s _ _ h⟩)
theorem xx(h:DV X e te):DIw X tg e (zjs te):=⟨λpins s σ H R I ⟨H₀,σD,QD,ok,q,k⟩=>zmy h.pe pins s σ H R I ⟨H₀,σD,_,ok,q,λv H1 d s1 r1 q1=>by
 cases d with
 |list xs=>
  obtain⟨a,vs,rfl,hf,r⟩:=r1.list;exact .inl ⟨_,_,rfl,.inl hf,k _ _ xs s1 (zmz λH' pr=>⟨RepL.sq' pr hf,r.same pr⟩) q1⟩
 |tuple xs=>
  obtain⟨a,vs,rfl,hf,r⟩:=r1.tuple;exact .inr ⟨_,_,rfl,hf,k _ _ xs s1 (zm0 λH' pr=>⟨pr.pers.sqT hf,r.same pr⟩) q1⟩
 |_=>exact q1.elim⟩⟩
def y6(lo:Int)(n:Nat):List D:=(List.range n).map λi=>.int (lo+(i:Nat))
theorem zm1{K:PySem.W.Frag}{Kp:Hp->Hp->Prop}{H1:Hp}(lo:Int)(n:Nat):ItOk K Kp (Itr lo n) H1 (y6 lo n) where
 go:=λH i d k e=>by
  have hi:i<n:=by have:=(List.getElem?_eq_some_iff.mp e).1;simpa[y6]using this
  refine⟨hi,λx H' y=>?_⟩;obtain⟨rfl,rfl⟩:=y;refine⟨Same.refl _,?_⟩;simp[y6,List.getElem?_map,List.getElem?_range hi]at e;subst e;exact .int
 stop:=λH k=>by
  show n<=(y6 lo n).length;simp[y6]
def ze6(ta:DTF):DTF:=λσ Q=>ta σ λds=>match ds with
 |[.int j]=>(-(2 ^ 62)<=j/\j<2 ^ 62)/\Q (y6 0 j.toNat)
 |_=>False
def ze7(ta:DTF):DTF:=λσ Q=>ta σ λds=>match ds with
 |[.int i,.int j]=>(-(2 ^ 62)<=i/\i<2 ^ 62/\-(2 ^ 62)<=j/\j<2 ^ 62)/\Q (y6 i (j-i).toNat)
 |_=>False
variable {a b:Expr}
theorem jb(hg:Gl X "range")(hm:X.mg "range" = none)(ha:DA X [a] t)(hs:starEach [a] X.env = [(false,eval a X.env)]:=by rfl):DI X tg (.Call (.Name "range" p) [a] [] pos) (ze6 t) :=
 ⟨λpins s σ H R I ⟨H₀,σD,QD,ok,q,k⟩=>zkx hg hm ha.pa hs pins s σ H R I ⟨H₀,σD,_,ok,q,λvs H1 ds s1 r1 q1=>by
  match ds,r1,q1 with
  |[.int j],r1,q1=>
   cases r1 with
   |cons r t=>
    cases t
    cases r;exact⟨j,rfl,q1.1.1,q1.1.2,k _ _ _ s1 (zm1 0 j.toNat) q1.2⟩⟩⟩
theorem zlg(hg:Gl X "range")(hm:X.mg "range" = none)(ha:DA X [a,b] t)(hs:starEach [a,b] X.env = [(false,eval a X.env),(false,eval b X.env)]:=by rfl)(hs2:starEach [b] X.env = [(false,eval b X.env)]:=by rfl):DI X tg (.Call (.Name "range" p) [a,b] [] pos) (ze7 t) :=
 ⟨λpins s σ H R I ⟨H₀,σD,QD,ok,q,k⟩=>zky hg hm ha.pa hs hs2 pins s σ H R I ⟨H₀,σD,_,ok,q,λvs H1 ds s1 r1 q1=>by
  match ds,r1,q1 with
  |[.int i,.int j],r1,q1=>
   cases r1 with
   |cons r t=>
    cases t with
    |cons r2 t=>
     cases t
     cases r
     cases r2;exact⟨i,j,rfl,q1.1,k _ _ _ s1 (zm1 i (j-i).toNat) q1.2⟩⟩⟩
def q9(xs ys:List D):List D:=List.zipWith (λa b=>.tuple [a,b]) xs ys
theorem zpk{elts:List Expr}{x1}{tpos:Pos}{ta:TA}(hg:Gl X "zip")(hm:X.mg "zip" = none)(ha:PA X [a,b] ta)(hb:bootBuiltins "zip" = some (.type "zip"):=by first|exact boot_zip|rfl|decide +kernel)(hs:starEach [a,b] X.env = [(false,eval a X.env),(false,eval b X.env)]:=by rfl)(hs2:starEach [b] X.env = [(false,eval b X.env)]:=by rfl):
  PI X (.Tuple elts x1 tpos) (.Call (.Name "zip" p) [a,b] [] pos) (λσ H R=>ta σ H λvs H1=>∃b1 b2 a b,vs = [.ref a,.ref b]/\(∃xs,SqG b1 X.K H1 a xs)/\(∃ys,SqG b2 X.K H1 b ys)/\R (Izg b1 b2 X.K a b) H1):=by
 intro pins s σ H R I h;refine Call_ (wk I hg hm hb (PyProof.Rows.callWith_type1 (thn (ha pos pins s σ H _ I h) λus s1 ⟨vs,H1,I1,r1,q1⟩=>?_) (by rw[hs,hs2]) (by rw[hs2];rfl)));obtain⟨b1,b2,l1,l2,e,⟨xs,hq1⟩,⟨ys,hq2⟩,q⟩:=q1;subst e;obtain⟨v1,v2,rfl,r1',r2'⟩:=r1.two
 cases r1'
 cases r2';obtain⟨its1,rv1,p1,hz1⟩:=I1.sqG hq1;obtain⟨its2,rv2,p2,hz2⟩:=I1.sqG hq2;refine zlb p1 p2 λh' hz hTI hTO hi1 hi2 hk=>wpAny_pyIter_zip hz ?_;have I2:Inv X pins σ H1 { s1 with heap:=h' }:=I1.kept (t':=s1.toks) hk;refine⟨_,[s1.heap.objs.size+4,s1.heap.objs.size+2,s1.heap.objs.size+3,s1.heap.objs.size,s1.heap.objs.size+1],_,_,H1,rfl,I2,zlc (zipApart_new p1.lt p2.lt),⟨hz,hTI,⟨_,_,hTO⟩,hi1,hi2⟩,λb hb=>?_,q⟩;have hb':s1.heap.objs.size<=b:=by
  simp only[List.mem_cons,List.not_mem_nil,or_false]at hb;rcases hb with rfl|rfl|rfl|rfl|rfl <;> omega
 exact I1.fpOk hb' (I1.hok.fresh hb')
theorem ztd{K:PySem.W.Frag}{Kp:Hp->Hp->Prop}{H1:Hp}{b1 b2:Bool}{l m:Addr}{xs ys:List D}{vs ws:List V}(kp:∀H,Kp H1 H->(SqG b1 K H l vs/\Reps K H xs vs)/\SqG b2 K H m ws/\Reps K H ys ws):ItOk K Kp (Izg b1 b2 K l m) H1 (q9 xs ys) where
 go:=λH i d k e=>by
  obtain⟨⟨h1,r1⟩,h2,r2⟩:=kp H k;unfold q9 at e;rw[List.getElem?_zipWith]at e
  cases ex:xs[i]? with
  |none=>rw[ex]at e;cases e
  |some x=>
   cases ey:ys[i]? with
   |none=>rw[ex,ey]at e;cases e
   |some y=>
    rw[ex,ey]at e
    cases e;obtain⟨v,e1,q1⟩:=r1.get ex;obtain⟨w,e2,q2⟩:=r2.get ey;refine⟨⟨vs,ws,v,w,h1,h2,e1,e2⟩,λz H' yl=>?_⟩;obtain⟨p,v',w',hp,rfl,rfl,y1,y2⟩:=yl;have z1:=y1 vs h1;have z2:=y2 ws h2;rw[e1]at z1;rw[e2]at z2
    cases z1
    cases z2;exact⟨yc hp _,.tup (SqT.of zx) (.cons (q1.same (yc hp _)) (.cons (q2.same (yc hp _)) .nil))⟩
 stop:=λH k=>by
  obtain⟨⟨h1,r1⟩,h2,r2⟩:=kp H k;refine⟨vs,ws,h1,h2,?_⟩;unfold q9;rw[List.length_zipWith,<-r1.length,<-r2.length];omega
def zte(t:DTF):DTF:=λσ Q=>t σ λds=>match ds with
 |[.list xs,.list ys]=>Q (q9 xs ys)
 |[.list xs,.tuple ys]=>Q (q9 xs ys)
 |[.tuple xs,.list ys]=>Q (q9 xs ys)
 |[.tuple xs,.tuple ys]=>Q (q9 xs ys)
 |_=>False
theorem Rep.seqP{K:PySem.W.Frag}{H:Hp}{d:D}{v:V}{xs:List D}(h:Rep K H d v)(e:d=.list xs\/d=.tuple xs):∃b a vs,v=.ref a/\∀H',Pers H H'->SqG b K H' a vs/\Reps K H' xs vs:=by
 cases h with
 |lst hf r=>
  rcases e with e|e
  ·cases e;exact⟨false,_,_,rfl,λH' p=>⟨p.sqF hf,r.mono p⟩⟩
  ·cases e
 |tup hf r=>
  rcases e with e|e
  ·cases e
  ·cases e;exact⟨true,_,_,rfl,λH' p=>⟨p.sqT hf,r.mono p⟩⟩
 |_=>rcases e with e|e <;> cases e
theorem RepT.seqS{K:PySem.W.Frag}{H:Hp}{d:D}{v:V}{xs:List D}(h:RepT K H d v)(e:d=.list xs\/d=.tuple xs):∃b a vs,v=.ref a/\∀H',Same H H'->SqG b K H' a vs/\Reps K H' xs vs:=by
 rcases h with h |⟨ys,rfl,a,vs,rfl,hf,r⟩
 ·obtain⟨b,a,vs,e,k⟩:=h.seqP e;exact⟨b,a,vs,e,λH' s=>k H' s.pers⟩
 ·rcases e with e|e
  ·cases e;exact⟨false,a,vs,rfl,λH' s=>⟨RepL.sq' s hf,r.same s⟩⟩
  ·cases e
theorem zlh {ds:List D}{Q:List D->Prop} (h:match ds with
 |[.list xs,.list ys]=>Q (q9 xs ys)
 |[.list xs,.tuple ys]=>Q (q9 xs ys)
 |[.tuple xs,.list ys]=>Q (q9 xs ys)
 |[.tuple xs,.tuple ys]=>Q (q9 xs ys)
 |_=>False):∃d1 d2 xs ys,ds = [d1,d2]/\(d1=.list xs\/d1=.tuple xs)/\(d2=.list ys\/d2=.tuple ys)/\Q (q9 xs ys):=by
 split at h
 ·exact⟨_,_,_,_,rfl,.inl rfl,.inl rfl,h⟩
 ·exact⟨_,_,_,_,rfl,.inl rfl,.inr rfl,h⟩
 ·exact⟨_,_,_,_,rfl,.inr rfl,.inl rfl,h⟩
 ·exact⟨_,_,_,_,rfl,.inr rfl,.inr rfl,h⟩
 ·exact h.elim
theorem zpl{elts:List Expr}{x1}{tpos:Pos}(hg:Gl X "zip")(hm:X.mg "zip" = none)(ha:DAv X [a,b] t)(hs:starEach [a,b] X.env = [(false,eval a X.env),(false,eval b X.env)]:=by rfl)(hs2:starEach [b] X.env = [(false,eval b X.env)]:=by rfl):
  DIw X (.Tuple elts x1 tpos) (.Call (.Name "zip" p) [a,b] [] pos) (zte t) :=
 ⟨λpins s σ H R I ⟨H₀,σD,QD,ok,q,k⟩=>zpk hg hm ha.pa (by first|exact boot_zip|rfl|decide +kernel) hs hs2 pins s σ H R I ⟨H₀,σD,_,ok,q,λvs H1 ds s1 r1 q1=>by
  obtain⟨d1,d2,xs,ys,rfl,e1,e2,q2⟩:=zlh q1;obtain⟨v,w,rfl,r,r2⟩:=r1.two;obtain⟨b1,l,vs,rfl,k1⟩:=r.seqS e1;obtain⟨b2,m,ws,rfl,k2⟩:=r2.seqS e2;exact⟨b1,b2,l,m,rfl,⟨vs,(k1 _ (Same.refl _)).1⟩,⟨ws,(k2 _ (Same.refl _)).1⟩,k _ _ _ s1 (ztd λH' pr=>⟨k1 H' pr,k2 H' pr⟩) q2⟩⟩⟩
abbrev DTG:=D->DSt->(DSt->Prop)->Prop
abbrev ze8:=List D->DSt->(DSt->Prop)->Prop
structure DG(X:Cx)(tg:Expr)(is:List Nat)(g:DTG):Prop where
 run:∀(pins:List (Addr×Obj)) (s:Shared) (σ:St) (H H₀:Hp) (σD:DSt) (v:V) (u:Value) (d:D) (Q:DSt->Prop),Inv X pins σ H s->DOk X.K H₀ H σD σ->RelV v u->Rep X.K H d v->g d σD Q ->
  wpAny (model X.prog X.w) X.A (assign tg X.env u) (λ_ s'=>∃σ' σD',Inv X pins σ' H s'/\DOk X.K H₀ H σD' σ'/\(∀j,j∉is->σ'[j]?=σ[j]?)/\Q σD') X.xe s
structure DGs(X:Cx)(ts:List Expr)(is:List Nat)(g:ze8):Prop where
 run:∀(pins:List (Addr×Obj)) (s:Shared) (σ:St) (H H₀:Hp) (σD:DSt) (vs:List V) (us:List Value) (ds:List D) (Q:DSt->Prop),Inv X pins σ H s->DOk X.K H₀ H σD σ->Vals vs us->Reps X.K H ds vs->g ds σD Q ->
  wpAny (model X.prog X.w) X.A (assignInOrder ((assignEach ts X.env).map (·.2)) us) (λ_ s'=>∃σ' σD',Inv X pins σ' H s'/\DOk X.K H₀ H σD' σ'/\(∀j,j∉is->σ'[j]?=σ[j]?)/\Q σD') X.xe s
def zh8(i:Nat):DTG:=λd σ Q=>Q (σ.set i (some (.val d)))
theorem zg{i:Nat}{x:Str}(hN:X.N.Nodup)(hi:X.N[i]?=some x)(hx:Loc X.env.scope x)(hf:X.fn x=true\/X.env.scope.names.lookup x=some .local:=by first|exact .inl rfl|exact .inr rfl|assumption):DG X (.Name x pos) [i] (zh8 i) :=
 ⟨λpins s σ H H₀ σD v u d Q I ok r rp q=>wpAny_assign_Name (wj I hN hi hx r (λs' I'=>⟨_,_,I',ok.setV rp i,λj hj=>List.getElem?_set_ne (λz=>hj (by simp[z])),q⟩) hf)⟩
def zm2:ze8:=λds σ Q=>ds = []/\Q σ
def zh9(g:DTG)(gs:ze8):ze8:=λds σ Q=>match ds with
 |d::r=>g d σ λσ'=>gs r σ' Q
 |[]=>False
theorem yh:DGs X [] [] zm2:=⟨λpins s σ H H₀ σD vs us ds Q I ok r rp q=>by
 obtain⟨rfl,q⟩:=q
 cases rp
 cases r;exact assignInOrder_nil ⟨σ,σD,I,ok,λ_ _=>rfl,q⟩⟩
theorem ze{e:Expr}{es:List Expr}{i1 i2:List Nat}{g:DTG}{gs:ze8}(h1:DG X e i1 g)(h2:DGs X es i2 gs)
  (hs:(assignEach (e::es) X.env).map (·.2)=assign e X.env::(assignEach es X.env).map (·.2):=by rfl):DGs X (e::es) (i1++i2) (zh9 g gs):=⟨λpins s σ H H₀ σD vs us ds Q I ok r rp q=>by
 cases rp with
 |nil=>exact q.elim
 |cons rd rds=>
  cases r with
  |cons r rr=>
   rw[hs];refine assignInOrder_cons (thn (h1.run pins s σ H H₀ σD _ _ _ _ I ok r rd q) λ_ s1 zr48=>?_);obtain⟨σ1,σD1,I1,ok1,f1,q1⟩:=zr48;refine thn (h2.run pins s1 σ1 H H₀ σD1 _ _ _ Q I1 ok1 rr rds q1) λ_ s2 ⟨σ2,σD2,I2,ok2,f2,q2⟩=>⟨σ2,σD2,I2,ok2,λj hj=>?_,q2⟩
   rw[f2 j (λz=>hj (List.mem_append_right _ z)),f1 j (λz=>hj (List.mem_append_left _ z))]⟩
def zm3(n:Nat)(gs:ze8):DTG:=λd σ Q=>match d with
 |.tuple xs=>xs.length=n/\gs xs σ Q
 |_=>False
theorem ztf{es:List Expr}{k:Nat}{is:List Nat}{gs:ze8}{n:Nat}(hc:X.calm=true)(h:DGs X es is gs)(hn:(assignEach es X.env).length=n:=by rfl)(hst:(assignEach es X.env).findIdx? (·.1)=none:=by rfl):DG X (.Tuple es k pos) is (zm3 n gs):=⟨λpins s σ H H₀ σD v u d Q I ok r rp q=>by
 cases d with
 |tuple xs=>
  obtain⟨hl,q⟩:=q
  cases rp with
  |tup hq rr=>
   cases r;obtain⟨its,rv,ht,hz⟩:=I.tuple hq;refine assign_Tuple_tuple (I.ok.hd hc) ht (by simp[hn,<-hl,<-rv.length,rr.length]) hst λh' hx=>?_;have I1:Inv X pins σ H { s with heap:=h' }:=I.kept (t':=s.toks) λb o e=>hx b o (Nat.ne_of_lt (Heap.lt_size e)) e;exact h.run pins _ σ H H₀ σD _ _ xs Q I1 ok (by simpa using rv) rr q
 |_=>exact q.elim⟩
def lcD(f:D->(Option D->Prop)->Prop):List D->(List D->Prop)->Prop
 |[],Q=>Q []
 |d::ds,Q=>f d λo=>lcD f ds λys=>Q (match o with|some y=>y::ys|none=>ys)
def zgf:Option W->Option W
 |some (.own (.lst xs))=>some (.vw xs)
 |some (.own (.dct xs))=>some (.vd xs)
 |some (.own (.nst _ _))=>none
 |some (.own (.anc _ _))=>none
 |some (.own (.ins _ _))=>none
 |some (.own (.mix _))=>none
 |some (.own (.tk _))=>none
 |some (.own (.dcT _))=>none
 |some (.own (.insL _ _))=>none
 |some (.tmp _)=>none
 |w=>w
def xv(k:Nat)(js:List Nat)(σ:DSt):DSt:=List.replicate k none++js.map λj=>zgf (σ[j]?).join
def lcF(g:DTG)(tt:DTT)(te:DTE)(σ0:DSt):D->(Option D->Prop)->Prop:=λd k=>g d σ0 λσ2=>tt σ2 λb=>if b=true then te σ2 λy=>k (some y) else k none
def dLC(k:Nat)(js:List Nat)(ti:DTF)(g:DTG)(tt:DTT)(te:DTE):DTF:=λσ Q=>ti σ λds=>ds.length<=sizeLine/\lcD (lcF g tt te (xv k js σ)) ds Q
structure DTs(X:Cx)(ifs:List Expr)(t:DTT):Prop where
 pts:PTs X ifs (cnT X.K t)
def zm4:DTT:=λ_ Q=>Q true
theorem wg:DTs X [] zm4:=⟨λpins s σ H Q I zq37=>by obtain⟨H₀,σD,QD,ok,q,k⟩:=zq37;exact zo9 pins s σ H Q I (k true H (Same.refl _) q)⟩
theorem ze9{c:Expr}{t:DTT}(h:DT X c t):DTs X [c] t:=⟨zpa h.pt⟩
theorem Slots.keepN{K:PySem.W.Frag}{H₀ H:Hp}{σD:DSt}{σ:St}{fp:List Addr}(h:Slots K H₀ H σD σ fp):∀{σ':St},σ'.length=σ.length->(∀j:Nat,σD[j]?=some Option.none\/σ'[j]?=σ[j]?)->Slots K H₀ H σD σ' fp:=by
 induction h with
 |nil=>intro σ' hl _;cases σ' with
  |nil=>exact .nil
  |cons _ _=>simp at hl
 |none t ih=>
  intro σ' hl k
  cases σ' with
  |nil=>simp at hl
  |cons x σ'=>exact .none (ih (by simpa using hl) λj=>by simpa using k (j+1))
 |val r t ih=>
  intro σ' hl k
  cases σ' with
  |nil=>simp at hl
  |cons x σ'=>
   have:=k 0;simp at this;subst this;exact .val r (ih (by simpa using hl) λj=>by simpa using k (j+1))
 |vw r t ih=>
  intro σ' hl k
  cases σ' with
  |nil=>simp at hl
  |cons x σ'=>
   have:=k 0;simp at this;subst this;exact .vw r (ih (by simpa using hl) λj=>by simpa using k (j+1))
 |vd r t ih=>
  intro σ' hl k
  cases σ' with
  |nil=>simp at hl
  |cons x σ'=>
   have:=k 0;simp at this;subst this;exact .vd r (ih (by simpa using hl) λj=>by simpa using k (j+1))
 |exc r t ih=>
  intro σ' hl k
  cases σ' with
  |nil=>simp at hl
  |cons x σ'=>
   have:=k 0;simp at this;subst this;exact .exc r (ih (by simpa using hl) λj=>by simpa using k (j+1))
 |scr r t ih=>
  intro σ' hl k
  cases σ' with
  |nil=>simp at hl
  |cons x σ'=>
   have:=k 0;simp at this;subst this;exact .scr r (ih (by simpa using hl) λj=>by simpa using k (j+1))
 |pen r t ih=>
  intro σ' hl k
  cases σ' with
  |nil=>simp at hl
  |cons x σ'=>
   have:=k 0;simp at this;subst this;exact .pen r (ih (by simpa using hl) λj=>by simpa using k (j+1))
 |tmp r t ih=>
  intro σ' hl k
  cases σ' with
  |nil=>simp at hl
  |cons x σ'=>
   have:=k 0;simp at this;subst this;exact .tmp r (ih (by simpa using hl) λj=>by simpa using k (j+1))
 |own r t ih=>
  intro σ' hl k
  cases σ' with
  |nil=>simp at hl
  |cons x σ'=>
   have:=k 0;simp at this;subst this;exact .own r (ih (by simpa using hl) λj=>by simpa using k (j+1))
theorem DOk.keepN{K:PySem.W.Frag}{H₀ H:Hp}{σD:DSt}{σ σ':St}(h:DOk K H₀ H σD σ)(hl:σ'.length=σ.length)(k:∀j:Nat,σD[j]?=some Option.none\/σ'[j]?=σ[j]?):DOk K H₀ H σD σ':=let ⟨s,fp,sl,r⟩:=h;⟨s,fp,sl.keepN hl k,r⟩
theorem DOk.block{K:PySem.W.Frag}{H₀ H:Hp}{σD:DSt}{σ:St}(h:DOk K H₀ H σD σ)(k:Nat)(js:List Nat):DOk K H H (xv k js σD) (xi k js σ):=by
 refine⟨Same.refl _,[],?_,List.nodup_nil,λa ha=>by cases ha⟩;have two:∀js:List Nat,Slots K H H (js.map λj=>zgf (σD[j]?).join) (js.map λj=>(σ[j]?).join) []:=by
  intro js
  induction js with
  |nil=>exact .nil
  |cons j js ih=>
   simp only[List.map_cons];have nn:∀v,Slots K H H (none::js.map λj=>zgf (σD[j]?).join) (v::js.map λj=>(σ[j]?).join) []:=λv=>.none ih
   cases e:σD[j]? with
   |none=>exact nn _
   |some o=>
    cases o with
    |none=>exact nn _
    |some w=>
     cases w with
     |val d=>
      obtain⟨v,e1,r⟩:=h.val e;rw[e1];exact .val r ih
     |vw xs=>
      obtain⟨v,e1,r⟩:=h.vw e;rw[e1];exact .vw r ih
     |vd xs=>
      obtain⟨v,e1,r⟩:=h.vd e;rw[e1];exact .vd r ih
     |exc xs=>
      obtain⟨v,e1,r⟩:=h.exc e;rw[e1];exact .exc r ih
     |scr ns=>
      obtain⟨a,e1,r⟩:=h.scr e;rw[e1];exact .scr r ih
     |pen=>
      obtain⟨a,e1,r⟩:=h.pen e;rw[e1];exact .pen r ih
     |tmp d=>exact nn _
     |own o=>
      cases o with
      |lst xs=>
       obtain⟨a,vs,e1,e2,r,_⟩:=h.ownL e;rw[e1];exact .vw ⟨a,vs,rfl,.inl e2,r⟩ ih
      |dct xs=>
       obtain⟨a,vs,e1,e2,r,_⟩:=h.ownD e;rw[e1];exact .vd ⟨a,vs,rfl,e2,r⟩ ih
      |nst xss ds=>exact nn _
      |anc _ _=>exact nn _
      |ins _ _=>exact nn _
      |mix _=>exact nn _
      |tk _=>exact nn _
      |dcT _=>exact nn _
      |insL _ _=>exact nn _
      |fzT xs=>
       obtain⟨s,fp,sl,nd,fr⟩:=id h;obtain⟨v,e1,f,⟨a,oo,vs,rfl,rfl,e2,r⟩,m⟩:=sl.get e;rw[e1];exact .own (f:=[]) ⟨a,oo,vs,rfl,rfl,e2,r⟩ ih
 unfold xv xi
 induction k with
 |zero=>exact two js
 |succ k ih=>exact .none ih
theorem zm5{g:DTG}{tt:DTT}{te:DTE}{k:Nat}{js is:List Nat}{σ:St}{σD:DSt}{H₀ H1:Hp}{J:It}{ds:List D}{QD:List D->Prop}{Dd:Addr}{gL:TG}(ok:DOk X.K H₀ H1 σD σ)(it:ItOk X.K Same J H1 ds)(hz:ds.length<=sizeLine)
  (hg:∀d v σ' H' Q (σ0:DSt),DOk X.K H1 H' σ0 σ'->Rep X.K H' d v->g d σ0 Q->gL v σ' H' (λσ2 H2=>H2=H'/\σ2.length=σ'.length/\(∀j,j∉is->σ2[j]?=σ'[j]?)/\∃σD2,DOk X.K H1 H' σD2 σ2/\Q σD2))
  (mono:∀v σ' H' (Q Q':St->Hp->Prop),(∀σ2 H2,Q σ2 H2->Q' σ2 H2)->gL v σ' H' Q->gL v σ' H' Q')
  (his:∀j∈is,j<k) (hn:H1 Dd=none) (q:lcD (lcF g tt te (xv k js σD)) ds QD) :
  zew J Dd gL (cnT X.K tt) (cnE X.K te) (xi k js σ) H1 (λv H'=>∃a vs xs,v=.ref a/\Same H1 H'/\H1 a=none/\H' a=some (.lst vs)/\Reps X.K H' xs vs/\QD xs):=by
 have sub:∀{Q1:List D->Prop}{i:Nat}{d:D},ds[i]?=some d->lcD (lcF g tt te (xv k js σD)) (ds.drop i) Q1=lcF g tt te (xv k js σD) d (λo=>lcD (lcF g tt te (xv k js σD)) (ds.drop (i+1)) λys=>Q1 (match o with|some y=>y::ys|none=>ys)):=λ{Q1 i d} e=>by
  obtain⟨hi,e'⟩:=List.getElem?_eq_some_iff.mp e;rw[List.drop_eq_getElem_cons hi,e'];rfl
 refine⟨λi m σ' H'=>m=ds.length-i/\i<=ds.length/\Same H1 H'/\σ'.length=(xi k js σ).length/\(∀j,k<=j->σ'[j]?=(xi k js σ)[j]?)/\∃acc vs,H' Dd=some (.lst vs)/\Reps X.K H' acc vs/\acc.length<=i/\lcD (lcF g tt te (xv k js σD)) (ds.drop i) (λys=>QD (acc++ys)),
  ⟨ds.length,rfl,Nat.zero_le _,yc hn _,rfl,λ_ _=>rfl,[],[],zx,.nil,Nat.le_refl _,q⟩,?_⟩
 intro i m σ' H' zz;refine gg λG zk=>?_;obtain⟨zem,hi,sm,hl,fr,acc,vs,eD,ra,la,q1⟩:=zz;refine zk ?_;clear zk;subst zem;have ok1:DOk X.K H1 H' (xv k js σD) σ':=by
  refine DOk.keepN ((ok.block k js).after sm) hl λj=>?_
  by_cases hj:j<k
  ·left;unfold xv;rw[List.getElem?_append_left (by simpa using hj),List.getElem?_replicate,if_pos hj]
  ·right;exact fr j (by omega)
 by_cases hlt:i<ds.length
 ·have e:ds[i]?=some ds[i]:=by simp[hlt]
  obtain⟨go,yl⟩:=it.go H' i ds[i] sm e;refine .inr ⟨go,λx H2 y=>?_⟩;obtain⟨s2,r2⟩:=yl x H2 y;rw[sub e]at q1;refine mono _ _ _ _ _ (λσ2 H3 z=>?_) (hg ds[i] x σ' H2 _ _ (ok1.after s2) r2 q1);obtain⟨rfl,l2,f2,σD2,ok2,q2⟩:=z;have fr2:∀j,k<=j->σ2[j]?=(xi k js σ)[j]?:=λj hj=>by rw[f2 j (λz=>absurd (his j z) (by omega)),fr j hj]
  refine⟨H1,σD2,_,ok2,q2,λb H4 s4 q4=>?_⟩
  cases b with
  |true=>
   rw[if_pos rfl]at q4 ⊢;refine⟨H1,σD2,_,ok2.after s4,q4,λy H5 dy s5 r5 q5=>?_⟩;have eD5:=s5 _ _ (s4 _ _ (s2 _ _ eD));have ra5:=((ra.same s2).same s4).same s5;refine⟨vs,eD5,by rw[<-ra5.length];omega,ds.length-(i+1),by omega,rfl,hlt,?_,l2.trans hl,fr2,acc ++ [dy],vs ++ [y],zx,?_,by rw[List.length_append,List.length_singleton];omega,?_⟩
   ·exact Same.but (((sm.trans s2).trans s4).trans s5) hn But.write
   ·exact(ra5.append (.cons r5 .nil)).mono (wn eD5 rfl)
   ·simpa using q5
  |false=>
   rw[if_neg Bool.false_ne_true]at q4 ⊢;exact⟨ds.length-(i+1),by omega,rfl,hlt,(sm.trans s2).trans s4,l2.trans hl,fr2,acc,vs,s4 _ _ (s2 _ _ eD),(ra.same s2).same s4,by omega,by simpa using q4⟩
 ·have e:i=ds.length:=by omega
  subst e;rw[List.drop_length]at q1;refine .inl ⟨it.stop H' sm,Dd,vs,acc,rfl,sm,hn,eD,ra,?_⟩;have:lcD (lcF g tt te (xv k js σD)) [] (λys=>QD (acc++ys)):=q1;simpa[lcD]using this
def cnG(K:PySem.W.Frag)(is:List Nat)(g:DTG):TG:=λv σ H Q=>∃H₀ σD d QD,DOk K H₀ H σD σ/\Rep K H d v/\g d σD QD/\∀σ' σD',σ'.length=σ.length->DOk K H₀ H σD' σ'->(∀j,j∉is->σ'[j]?=σ[j]?)->QD σD'->Q σ' H
theorem DG.pg{is:List Nat}{g:DTG}(h:DG X tg is g):PG X tg (cnG X.K is g):=λpins s σ H v u Q I r zq87=>by obtain⟨H₀,σD,d,QD,ok,rp,q,k⟩:=zq87;exact thn (h.run pins s σ H H₀ σD v u d QD I ok r rp q) λ_ s' zq1=>by obtain⟨σ',σD',I',ok',f,qd⟩:=zq1;exact⟨σ',H,I',k σ' σD' (by rw[I'.len,I.len]) ok' f qd⟩
variable {elt:Expr}{ifs:List Expr}{scope:Scope}{cl:List (Str×Addr)}{N' capt:List Str}{k:Nat}{js is:List Nat}{ti:DTF}{g:DTG}{tt:DTT}{te:DTE}
theorem ql(hc:X.calm=true)(L:zsp X scope cl N' capt k js)
  (hi:DIw X tg iter ti) (hg:∀C fp s2 H2,DG (vh X N' scope cl C fp s2 H2) tg is g) (ht:∀C fp s2 H2,DTs (vh X N' scope cl C fp s2 H2) ifs tt) (he:∀C fp s2 H2,DE (vh X N' scope cl C fp s2 H2) elt te)
  (his:∀j∈is,j<k:=by decide) (hs:∀x,foldedSetIterable iter X.env x=pure x:=by intro _;rfl):DF X (.ListComp elt [⟨tg,iter,ifs,0⟩] scope pos) (dLC k js ti g tt te) :=
 DF.of (zvg hc L hi.pi (λC fp s2 H2=>(hg C fp s2 H2).pg) (λC fp s2 H2=>(ht C fp s2 H2).pts) (λC fp s2 H2=>(he C fp s2 H2).pe) hs) λσ H H₀ σD QD ok q=>⟨H₀,σD,_,ok,q,λJ H1 ds s1 it q1 Dd hn=>by
  have z:=zm5 (k:=k) (js:=js) (is:=is) (gL:=cnG X.K is g) (Dd:=Dd) (ok.after s1) it q1.1 (λd v σ' H' Q σ0 ok0 r0 q0=>⟨H1,σ0,d,Q,ok0,r0,q0,λσ2 σD2 l2 ok2 f2 q2=>⟨rfl,l2,f2,σD2,ok2,q2⟩⟩)
   (λv σ' H' Q Q' m zq7=>by obtain⟨a,b,c,d,e1,e2,e3,e4⟩:=zq7;exact⟨a,b,c,d,e1,e2,e3,λσ2 σD2 l o f q=>m _ _ (e4 σ2 σD2 l o f q)⟩) his hn q1.2
  obtain⟨W,w0,turn⟩:=z;refine⟨W,w0,λi m σ' H' w=>?_⟩;rcases turn i m σ' H' w with⟨st,a,vs,xs,e,sm,n,e2,r,qd⟩|h
  ·exact .inl ⟨st,a,vs,xs,e,s1.trans sm,s1.free n,e2,r,qd⟩
  ·exact .inr h⟩
end
inductive Ret where
 |val (d:D)|new (xs:List D)
def Ret.d:Ret->D
 |.val d=>d
 |.new xs=>.list xs
abbrev DSp:=List W->(Ret->Prop)->Prop
def zia(K:PySem.W.Frag)(H H':Hp):Ret->V->Prop
 |.val d,v=>Rep K H' d v
 |.new xs,v=>∃a vs,v=.ref a/\H a=none/\H' a=some (.lst vs)/\Reps K H' xs vs
def ya(K:PySem.W.Frag)(sp:DSp):Sp:=λvs H Q _=>∃ws QD,RepWs K H ws vs/\sp ws QD/\∀v H' r,Same H H'->zia K H H' r v->QD r->Q v H'
def zm6(sp:DSp)(t:DTP):DTE:=λσ Q=>t σ λws=>sp ws λr=>Q r.d
def zib(sp:DSp)(t:DTP):DTF:=λσ Q=>t σ λws=>sp ws λr=>match r with
 |.new xs=>Q xs
 |.val _=>False
section
variable {X:Cx}{e:Expr}{es:List Expr}{k k':Nat}{x:Str}{ps:List Str}{sp:DSp}{t:DTP}{p pos:Pos}
theorem zgg{pins:List (Addr×Obj)}{σ:St}{H H₀:Hp}{σD:DSt}{s:Shared}{Q:Ret->Prop}(C:zaw X.prog X.w X.K X.mg X.base k x ps (ya X.K sp))(hr:Room k' X.A)(hg:Gl X x)(ha:DPs X (e::es) t)(hk:k<=k')
  (hdb:(x ==("__debug__" : Str))=false) (he:starEach (e::es) X.env=(false,eval e X.env)::starEach es X.env) (hpl:(backTo pos (starEach es X.env)).any (·.1)=false) (I:Inv X pins σ H s) (ok:DOk X.K H₀ H σD σ) (q:t σD λws=>sp ws Q) :
  wpAny (model X.prog X.w) X.A (eval (.Call (.Name x p) (e::es) [] pos) X.env) (λu s'=>∃v H' r,Inv X pins σ H' s'/\RelV v u/\Same H H'/\zia X.K H H' r v/\Q r) X.xe s:=by
 refine thn (zcf C hr hg ha.pa hk hdb he hpl pins s σ H (λv H'=>∃r,Same H H'/\zia X.K H H' r v/\Q r) I ?_) λu s' zq26=>by obtain⟨v,H',I',r,z,sm,rp,qd⟩:=zq26;exact⟨v,H',z,I',r,sm,rp,qd⟩
 refine⟨H₀,σD,_,ok,q,λvs H1 ws s1 r1 q1=>⟨ws,Q,by rw[List.append_nil];exact r1,q1,λv H' r s2 rp qd=>⟨r,s1.trans s2,?_,qd⟩⟩⟩
 cases r with
 |val d=>exact rp
 |new xs=>obtain⟨a,vs,e1,n,e2,r⟩:=rp;exact⟨a,vs,e1,s1.free n,e2,r⟩
theorem zh(C:zaw X.prog X.w X.K X.mg X.base k x ps (ya X.K sp))(hr:Room k' X.A)(hg:Gl X x)(ha:DPs X (e::es) t)(hk:k<=k':=by decide)(hdb:(x ==("__debug__" : Str))=false:=by decide)
  (he:starEach (e::es) X.env=(false,eval e X.env)::starEach es X.env:=by rfl) (hpl:(backTo pos (starEach es X.env)).any (·.1)=false:=by rfl):DE X (.Call (.Name x p) (e::es) [] pos) (zm6 sp t) :=
 ⟨λpins s σ H H₀ σD Q I ok q=>thn (zgg C hr hg ha hk hdb he hpl I ok q) λu s' zq83=>by
  obtain⟨v,H',r,I',rv,sm,rp,qd⟩:=zq83
  cases r with
  |val d=>exact⟨v,H',d,I',rv,sm,rp,qd⟩
  |new xs=>
   obtain⟨a,vs,rfl,n,e,r⟩:=rp;obtain⟨H'',J,sm',r'⟩:=zex I' sm n e r;exact⟨.ref a,H'',.list xs,J,rv,sm',r',qd⟩⟩
theorem zpm(C:zaw X.prog X.w X.K X.mg X.base k x ps (ya X.K sp))(hr:Room k' X.A)(hg:Gl X x)(ha:DPs X (e::es) t)(hk:k<=k':=by decide)(hdb:(x ==("__debug__" : Str))=false:=by decide)
  (he:starEach (e::es) X.env=(false,eval e X.env)::starEach es X.env:=by rfl) (hpl:(backTo pos (starEach es X.env)).any (·.1)=false:=by rfl):DF X (.Call (.Name x p) (e::es) [] pos) (zib sp t) :=
 ⟨λpins s σ H H₀ σD Q I ok q=>thn (zgg C hr hg ha hk hdb he hpl I ok q) λu s' zq83=>by
  obtain⟨v,H',r,I',rv,sm,rp,qd⟩:=zq83
  cases r with
  |val d=>exact qd.elim
  |new xs=>
   obtain⟨a,vs,rfl,n,e,r⟩:=rp;exact⟨a,H',vs,xs,rv,I',sm,n,e,r,qd⟩⟩
end
structure wv where
 nx:DSt->Prop
 rt:Ret->Prop
 bk:DSt->Prop:=λ_=>False
 ct:DSt->Prop:=λ_=>False
abbrev DTS:=wv->DSt->Prop
def DSP(X:Cx)(pins:List (Addr×Obj))(H₀ H:Hp)(Dn:wv)(f:Flow)(s':Shared):Prop :=
 match f with
 |.next=>∃σ' H' σD',Inv X pins σ' H' s'/\DOk X.K H₀ H' σD' σ'/\Pers H H'/\Dn.nx σD'
 |.brk=>∃σ' H' σD',Inv X pins σ' H' s'/\DOk X.K H₀ H' σD' σ'/\Pers H H'/\Dn.bk σD'
 |.cont=>∃σ' H' σD',Inv X pins σ' H' s'/\DOk X.K H₀ H' σD' σ'/\Pers H H'/\Dn.ct σD'
 |.ret u=>∃v σ' H' r,Inv X pins σ' H' s'/\RelV v u/\Same H₀ H'/\zia X.K H₀ H' r v/\Dn.rt r
structure DS(X:Cx)(st:Stmt)(t:DTS):Prop where
 run:∀(pins:List (Addr×Obj)) (s:Shared) (σ:St) (H H₀:Hp) (σD:DSt) (Dn:wv),Inv X pins σ H s->DOk X.K H₀ H σD σ->t Dn σD->wpAny (model X.prog X.w) X.A (exec st X.env) (DSP X pins H₀ H Dn) X.xe s
structure DSs(X:Cx)(st:List Stmt)(t:DTS):Prop where
 run:∀(pins:List (Addr×Obj)) (s:Shared) (σ:St) (H H₀:Hp) (σD:DSt) (Dn:wv),Inv X pins σ H s->DOk X.K H₀ H σD σ->t Dn σD->wpAny (model X.prog X.w) X.A (execs st X.env) (DSP X pins H₀ H Dn) X.xe s
theorem DSP.back{X:Cx}{pins:List (Addr×Obj)}{H₀ H H1:Hp}{Dn:wv}{f:Flow}{s':Shared}(p:Pers H H1)(h:DSP X pins H₀ H1 Dn f s'):DSP X pins H₀ H Dn f s':=by
 cases f with
 |next=>obtain⟨a,b,c,e1,e2,e3,e4⟩:=h;exact⟨a,b,c,e1,e2,p.trans e3,e4⟩
 |brk=>obtain⟨a,b,c,e1,e2,e3,e4⟩:=h;exact⟨a,b,c,e1,e2,p.trans e3,e4⟩
 |cont=>obtain⟨a,b,c,e1,e2,e3,e4⟩:=h;exact⟨a,b,c,e1,e2,p.trans e3,e4⟩
 |ret u=>exact h
def zm7(K:PySem.W.Frag)(H₀ H:Hp)(Dn:wv):zhl where
 nx:=λσ' H'=>∃σD',DOk K H₀ H' σD' σ'/\Pers H H'/\Dn.nx σD'
 bk:=λσ' H'=>∃σD',DOk K H₀ H' σD' σ'/\Pers H H'/\Dn.bk σD'
 ct:=λσ' H'=>∃σD',DOk K H₀ H' σD' σ'/\Pers H H'/\Dn.ct σD'
 rt:=λv H'=>∃r,Same H₀ H'/\zia K H₀ H' r v/\Dn.rt r
section
variable {X:Cx}{st:Stmt}{sts rest:List Stmt}{t u:DTS}{e:Expr}{te:DTE}{tf:DTF}{pos:Pos}
theorem SP.dsp{pins:List (Addr×Obj)}{H₀ H:Hp}{Dn:wv}{f:Flow}{s':Shared}(h:SP X pins (zm7 X.K H₀ H Dn) f s'):DSP X pins H₀ H Dn f s':=by
 cases f with
 |next=>obtain⟨a,b,e1,c,e2,e3,e4⟩:=h;exact⟨a,b,c,e1,e2,e3,e4⟩
 |brk=>obtain⟨a,b,e1,c,e2,e3,e4⟩:=h;exact⟨a,b,c,e1,e2,e3,e4⟩
 |cont=>obtain⟨a,b,e1,c,e2,e3,e4⟩:=h;exact⟨a,b,c,e1,e2,e3,e4⟩
 |ret u=>obtain⟨v,a,b,e1,e2,r,e3,e4,e5⟩:=h;exact⟨v,a,b,r,e1,e2,e3,e4,e5⟩
theorem DS.of{t':TS}(h:PS X st t')(k:∀σ H H₀ σD Dn,DOk X.K H₀ H σD σ->t Dn σD->t' (zm7 X.K H₀ H Dn) σ H):DS X st t :=
 ⟨λpins s σ H H₀ σD Dn I ok q=>thn (h pins s σ H _ I (k σ H H₀ σD Dn ok q)) λ_ _ z=>z.dsp⟩
def cnS(K:PySem.W.Frag)(t:DTS):TS:=λE σ H=>∃H₀ σD Dn,DOk K H₀ H σD σ/\t Dn σD/\(∀σ' H' σD',DOk K H₀ H' σD' σ'->Pers H H'->Dn.nx σD'->E.nx σ' H')/\(∀v H' r,Same H₀ H'->zia K H₀ H' r v->Dn.rt r->E.rt v H') /\
 (∀σ' H' σD',DOk K H₀ H' σD' σ'->Pers H H'->Dn.bk σD'->E.bk σ' H')/\∀σ' H' σD',DOk K H₀ H' σD' σ'->Pers H H'->Dn.ct σD'->E.ct σ' H'
theorem DSs.ps(h:DSs X sts t):PSs X sts (cnS X.K t):=by
 intro pins s σ H E I zz;obtain⟨H₀,σD,Dn,ok,q,k1,k2,k3,k4⟩:=zz;refine thn (h.run pins s σ H H₀ σD Dn I ok q) λf s' z=>?_
 cases f with
 |next=>obtain⟨a,b,c,e1,e2,e3,e4⟩:=z;exact⟨a,b,e1,k1 a b c e2 e3 e4⟩
 |brk=>obtain⟨a,b,c,e1,e2,e3,e4⟩:=z;exact⟨a,b,e1,k3 a b c e2 e3 e4⟩
 |cont=>obtain⟨a,b,c,e1,e2,e3,e4⟩:=z;exact⟨a,b,e1,k4 a b c e2 e3 e4⟩
 |ret u=>obtain⟨v,a,b,r,e1,e2,e3,e4,e5⟩:=z;exact⟨v,a,b,e1,e2,k2 v b r e3 e4 e5⟩
def zm8:DTS:=λDn σ=>Dn.nx σ
def zpn(t u:DTS):DTS:=λDn σ=>t { Dn with nx:=u Dn } σ
theorem ye:DSs X [] zm8:=⟨λ_ _ σ H _ σD _ I ok h=>wpAny_execs_nil ⟨σ,H,σD,I,ok,Pers.refl _,h⟩⟩
theorem zd(h1:DS X st t)(h2:DSs X rest u):DSs X (st::rest) (zpn t u):=⟨λpins s σ H H₀ σD Dn I ok q=>by
 refine wpAny_execs_cons (thn (h1.run pins s σ H H₀ σD { Dn with nx:=u Dn } I ok q) λf s1 z=>?_)
 cases f with
 |next=>
  obtain⟨σ',H',σD',I',ok',p,q'⟩:=z;exact thn (h2.run pins s1 σ' H' H₀ σD' Dn I' ok' q') λ_ _ y=>y.back p
 |ret v=>exact z
 |brk=>exact z
 |cont=>exact z⟩
theorem zj(h1:DS X st t):DSs X [st] t:=⟨λpins s σ H H₀ σD Dn I ok q=>by
 refine wpAny_execs_cons (thn (h1.run pins s σ H H₀ σD Dn I ok q) λf s1 z=>?_)
 cases f with
 |next=>exact wpAny_execs_nil z
 |ret v=>exact z
 |brk=>exact z
 |cont=>exact z⟩
def zic:DTS:=λDn σ=>Dn.bk σ
theorem zm9:DS X (.Break pos) zic:=⟨λ_ _ σ H _ σD _ I ok h=>wpAny_Break ⟨σ,H,σD,I,ok,Pers.refl _,h⟩⟩
def zid:DTS:=λ_ _=>False
theorem zgh:DS X st zid:=⟨λ_ _ _ _ _ _ _ _ _ h=>h.elim⟩
theorem zie{K:PySem.W.Frag}{H:Hp}{xss:List (List D)}{ds:List D}{v:V}{f1 f2:List Addr}(r:RepO K H (.nst xss ds) v f1)(r2:RepO K H (.nst xss ds) v f2):f1=f2:=by
 obtain⟨a,as,us,rfl,rfl,e,n,_⟩:=r;obtain⟨a2,as2,us2,e0,rfl,e2,n2,_⟩:=r2
 cases e0;rw[e]at e2;have h1:as.map V.ref++us=as2.map V.ref++us2:=HO.lst.inj (Option.some.inj e2);have h2:as.map V.ref=as2.map V.ref:=(List.append_inj h1 (by rw[List.length_map,List.length_map,n.len,n2.len])).1;have h3:as=as2:=(List.map_inj_right λx y h=>V.ref.inj h).mp h2;rw[h3]
theorem RepO.fp{K:PySem.W.Frag}{H:Hp}{o:O}{v:V}{f1 f2:List Addr}(r:RepO K H o v f1)(r2:RepO K H o v f2):f1=f2:=by
 induction o with
 |lst xs=>
  obtain⟨b,_,eb,rfl,_⟩:=r;obtain⟨b2,_,eb2,rfl,_⟩:=r2;rw[eb]at eb2
  cases eb2;rfl
 |dct xs=>
  obtain⟨b,_,eb,rfl,_⟩:=r;obtain⟨b2,_,eb2,rfl,_⟩:=r2;rw[eb]at eb2
  cases eb2;rfl
 |nst xss ds=>exact zie r r2
 |anc a o ih=>exact ih r.2 r2.2
 |tk ks=>
  obtain⟨b,eb,rfl,_⟩:=r;obtain⟨b2,eb2,rfl,_⟩:=r2;rfl
 |insL c fss=>
  obtain⟨a,ps,rfl,rfl,e1,m⟩:=r;obtain⟨a2,ps2,e0,rfl,e2,m2⟩:=r2
  cases e0;rw[e1]at e2;rw[m.fp m2 (HO.lst.inj (Option.some.inj e2))]
 |fzT xs=>
  obtain⟨_,_,_,_,rfl,_⟩:=r;obtain⟨_,_,_,_,rfl,_⟩:=r2;rfl
 |dcT xs=>
  obtain⟨b,_,eb,rfl,_⟩:=r;obtain⟨b2,_,eb2,rfl,_⟩:=r2;rw[eb]at eb2
  cases eb2;rfl
 |mix ms=>
  obtain⟨a,us,bs,rfl,rfl,e1,m⟩:=r;obtain⟨a2,us2,bs2,e0,rfl,e2,m2⟩:=r2
  cases e0;rw[e1]at e2
  cases e2;rw[m.fp m2]
 |ins c fs=>
  obtain⟨a,dx,C,fv,rfl,rfl,_,e1,_⟩:=r;obtain⟨a2,dx2,C2,fv2,e0,rfl,_,e2,_⟩:=r2
  cases e0;rw[e1]at e2
  cases e2;rfl
theorem DOk.frz{pins:List (Addr×Obj)}{s:Shared}{σ:St}{H H₀:Hp}{σD:DSt}{i:Nat}{xs:List D}(I:Inv X pins σ H s)(ok:DOk X.K H₀ H σD σ)(e:σD[i]?=some (some (.own (.lst xs)))):∃H',Inv X pins σ H' s/\DOk X.K H₀ H' (σD.set i (some (.val (.list xs)))) σ/\Pers H H':=by
 obtain⟨a,vs,e1,e2,r,n⟩:=ok.ownL e;obtain⟨o,J⟩:=I.frz e2;have ps:Pers H (upd H a (.frz o (.lst vs))):=wn e2 rfl;refine⟨_,J,?_,ps⟩;obtain⟨s0,fp,sl,nd,fr⟩:=id ok;have sm:Same H₀ (upd H a (.frz o (.lst vs))):=λb u hb=>by rw[zv (ym hb n)];exact s0 b u hb
 have hi:i<σD.length:=(List.getElem?_eq_some_iff.mp e).1
 -- the slot is forgotten first,then filled with the value
 obtain⟨_,fp1,sl1,nd1,fr1⟩:DOk X.K H₀ H (σD.set i none) (σ.set i (some (.ref a))):=ok.setN (some (.ref a)) i;have eσ:σ.set i (some (.ref a))=σ:=by
  refine List.ext_getElem? λj=>?_
  by_cases hj:i=j
  ·subst hj;rw[List.getElem?_set_self (by rw[<-ok.len];exact hi),e1]
  ·rw[List.getElem?_set_ne hj]
 rw[eσ]at sl1;have off:a∉fp1:=λha=>by
  -- every slot's own addresses apart: a belongs to slot i alone
  have key:∀{σD:DSt}{σ:St}{fp:List Addr},Slots X.K H₀ H σD σ fp->fp.Nodup->∀{i:Nat},σD[i]?=some (some (.own (.lst xs)))->σ[i]?=some (some (.ref a))->∀{fp1:List Addr},Slots X.K H₀ H (σD.set i none) σ fp1->a∉fp1:=by
   intro σD σ fp h;have det:∀{σD:DSt}{σ:St}{f1 f2:List Addr},Slots X.K H₀ H σD σ f1->Slots X.K H₀ H σD σ f2->f1=f2:=by
    intro σD σ f1 f2 h1
    induction h1 generalizing f2 with
    |nil=>intro h2;cases h2;rfl
    |none _ ih=>intro h2;cases h2 with|none t=>exact ih t
    |val _ _ ih=>intro h2;cases h2 with|val _ t=>exact ih t
    |vw _ _ ih=>intro h2;cases h2 with|vw _ t=>exact ih t
    |vd _ _ ih=>intro h2;cases h2 with|vd _ t=>exact ih t
    |exc _ _ ih=>intro h2;cases h2 with|exc _ t=>exact ih t
    |scr _ _ ih=>intro h2;cases h2 with|scr _ t=>exact ih t
    |pen _ _ ih=>intro h2;cases h2 with|pen _ t=>exact ih t
    |tmp _ _ ih=>intro h2;cases h2 with|tmp _ t=>exact ih t
    |@own o v f ws vs fp r _ ih=>
     intro h2
     cases h2 with
     |own r2 t=>
      cases o with
      |lst xs=>
       obtain⟨b,_,eb,rfl,_⟩:=r;obtain⟨b2,_,eb2,rfl,_⟩:=r2;rw[eb]at eb2
       cases eb2;rw[ih t]
      |dct xs=>
       obtain⟨b,_,eb,rfl,_⟩:=r;obtain⟨b2,_,eb2,rfl,_⟩:=r2;rw[eb]at eb2
       cases eb2;rw[ih t]
      |nst xss ds=>
       rw[zie r r2,ih t]
      |anc _ _=>rw[RepO.fp r r2,ih t]
      |ins _ _=>rw[RepO.fp r r2,ih t]
      |mix _=>rw[RepO.fp r r2,ih t]
      |tk _=>rw[RepO.fp r r2,ih t]
      |dcT _=>rw[RepO.fp r r2,ih t]
      |fzT _=>rw[RepO.fp r r2,ih t]
      |insL _ _=>rw[RepO.fp r r2,ih t]
   induction h with
   |nil=>intro _ i e;simp at e
   |none t ih=>
    intro nd i e ev fp1 h1
    cases i with
    |zero=>simp at e
    |succ i=>cases h1 with|none t1=>exact ih nd (by simpa using e) (by simpa using ev) t1
   |val r t ih=>
    intro nd i e ev fp1 h1
    cases i with
    |zero=>simp at e
    |succ i=>cases h1 with|val _ t1=>exact ih nd (by simpa using e) (by simpa using ev) t1
   |vw r t ih=>
    intro nd i e ev fp1 h1
    cases i with
    |zero=>simp at e
    |succ i=>cases h1 with|vw _ t1=>exact ih nd (by simpa using e) (by simpa using ev) t1
   |vd r t ih=>
    intro nd i e ev fp1 h1
    cases i with
    |zero=>simp at e
    |succ i=>cases h1 with|vd _ t1=>exact ih nd (by simpa using e) (by simpa using ev) t1
   |exc r t ih=>
    intro nd i e ev fp1 h1
    cases i with
    |zero=>simp at e
    |succ i=>cases h1 with|exc _ t1=>exact ih nd (by simpa using e) (by simpa using ev) t1
   |scr r t ih=>
    intro nd i e ev fp1 h1
    cases i with
    |zero=>simp at e
    |succ i=>cases h1 with|scr _ t1=>exact ih nd (by simpa using e) (by simpa using ev) t1
   |pen r t ih=>
    intro nd i e ev fp1 h1
    cases i with
    |zero=>simp at e
    |succ i=>cases h1 with|pen _ t1=>exact ih nd (by simpa using e) (by simpa using ev) t1
   |tmp r t ih=>
    intro nd i e ev fp1 h1
    cases i with
    |zero=>simp at e
    |succ i=>cases h1 with|tmp _ t1=>exact ih nd (by simpa using e) (by simpa using ev) t1
   |@own o v f ws wvs fp' r t ih=>
    intro nd i e ev fp1 h1;rw[List.nodup_append]at nd
    cases i with
    |zero=>
     simp at e ev;subst e ev;obtain⟨b,_,eb,rfl,_⟩:=r
     cases eb
     cases h1 with
     |none t1=>
      rw[det t1 t];exact λz=>nd.2.2 _ (by simp) _ z rfl
    |succ i=>
     have e':ws[i]?=some (some (.own (.lst xs))):=by simpa using e
     have ev':wvs[i]?=some (some (.ref a)):=by simpa using ev
     cases h1 with
     |own r1 t1=>
      intro z;rcases List.mem_append.mp z with z|z
      ·obtain⟨v',e1,f',⟨b,zs,rfl,rfl,hb,rb⟩,m⟩:=t.get e';rw[ev']at e1
       cases e1
       cases o with
       |lst ys=>
        obtain⟨b1,_,eb1,rfl,_⟩:=r;obtain⟨b2,_,eb2,rfl,_⟩:=r1;rw[eb1]at eb2
        cases eb2;exact nd.2.2 a z a (m a (by simp)) rfl
       |dct ys=>
        obtain⟨b1,_,eb1,rfl,_⟩:=r;obtain⟨b2,_,eb2,rfl,_⟩:=r1;rw[eb1]at eb2
        cases eb2;exact nd.2.2 a z a (m a (by simp)) rfl
       |nst yss ds=>
        rw[<-zie r r1]at z;exact nd.2.2 a z a (m a (by simp)) rfl
       |anc _ _=>
        rw[<-RepO.fp r r1]at z;exact nd.2.2 a z a (m a (by simp)) rfl
       |ins _ _=>
        rw[<-RepO.fp r r1]at z;exact nd.2.2 a z a (m a (by simp)) rfl
       |mix _=>
        rw[<-RepO.fp r r1]at z;exact nd.2.2 a z a (m a (by simp)) rfl
       |tk _=>
        rw[<-RepO.fp r r1]at z;exact nd.2.2 a z a (m a (by simp)) rfl
       |dcT _=>
        rw[<-RepO.fp r r1]at z;exact nd.2.2 a z a (m a (by simp)) rfl
       |fzT _=>
        rw[<-RepO.fp r r1]at z;exact nd.2.2 a z a (m a (by simp)) rfl
       |insL _ _=>
        rw[<-RepO.fp r r1]at z;exact nd.2.2 a z a (m a (by simp)) rfl
      ·exact ih nd.2.1 e' ev' t1 z
  exact key sl nd e e1 sl1 ha
 have sl2:Slots X.K H₀ (upd H a (.frz o (.lst vs))) (σD.set i none) σ fp1:=sl1.keep ps (λh=>h.frz e2) λb hb w hw=>by rw[zv (λz=>off (by rw[<-z];exact hb))];exact hw
 have fin:DOk X.K H₀ (upd H a (.frz o (.lst vs))) (σD.set i none) σ:=⟨sm,fp1,sl2,nd1,fr1⟩
 have:=fin.setV (d:=.list xs) (v:=.ref a) (.lst zx (r.mono ps)) i;rw[List.set_set,eσ]at this;exact this
def ztg(te:DTE):DTS:=λDn σ=>te σ λd=>Dn.rt (.val d)
def zna(tf:DTF):DTS:=λDn σ=>tf σ λxs=>Dn.rt (.new xs)
def zjt(i:Nat):DTS:=λDn σ=>match σ[i]? with
 |some (some (.own (.lst xs)))=>Dn.rt (.new xs)
 |_=>False
theorem zr(he:DE X e te):DS X (.Return (some e) pos) (ztg te) :=
 DS.of (zb9 he.pe) λσ H H₀ σD Dn ok q=>⟨H₀,σD,_,ok,q,λv H1 d s1 r1 q1=>⟨.val d,ok.same.trans s1,r1,q1⟩⟩
theorem zpo(he:DF X e tf):DS X (.Return (some e) pos) (zna tf) :=
 DS.of (zb9 he.pe) λσ H H₀ σD Dn ok q=>⟨H₀,σD,_,ok,q,λa H1 vs xs s1 n e r1 q1=>⟨.new xs,ok.same.trans s1,⟨a,vs,rfl,ok.same.free n,e,r1⟩,q1⟩⟩
theorem zpp(i:Nat){x:Str}{pos':Pos}(hN:X.N[i]?=some x:=by rfl)(hv:Vis X.env.scope x:=by first|exact Or.inl rfl|exact Or.inr (Or.inl rfl)|exact Or.inr (Or.inr rfl))(hd:(x ==("__debug__" : Str))=false:=by decide)
  (hcd:(x ==("__classdict__" : Str))=false:=by decide):DS X (.Return (some (.Name x pos')) pos) (zjt i) :=
 DS.of (zb9 (x3 (i:=i) hN hv hd hcd)) λσ H H₀ σD Dn ok q=>by
  unfold zjt at q
  split at q
  ·next xs e=>
   obtain⟨a,vs,e1,e2,r,n⟩:=ok.ownL e;exact⟨.ref a,e1,.new xs,ok.same,⟨a,vs,rfl,n,e2,r⟩,q⟩
  ·exact q.elim
def zth(i:Nat)(te:DTE):DTS:=λDn σ=>te σ λd=>Dn.nx (σ.set i (some (.val d)))
def znb(i:Nat)(tf:DTF):DTS:=λDn σ=>tf σ λxs=>Dn.nx (σ.set i (some (.own (.lst xs))))
def znc(i:Nat)(tf:DTF):DTS:=λDn σ=>tf σ λxs=>(∃a b c:Int,xs = [.int a,.int b,.int c])/\Dn.nx (σ.set i (some .pen))
theorem yo{i:Nat}{x:Str}{pos':Pos}(hN:X.N.Nodup)(hi:X.N[i]?=some x)(hx:Loc X.env.scope x)(he:DE X e te)(hs:swapsWith e (some (.Name x pos')) pos.line X.env=pure false:=by rfl)(hf:X.fn x=true\/X.env.scope.names.lookup x=some .local:=by first|exact .inl rfl|exact .inr rfl|assumption):
  DS X (.Assign [.Name x pos'] e pos) (zth i te) :=
 DS.of (zca hN hi hx he.pe hs hf) λσ H H₀ σD Dn ok q=>⟨H₀,σD,_,ok,q,λv H1 d s1 r1 q1=>⟨_,(ok.after s1).setV r1 i,s1.pers,q1⟩⟩
theorem zac{i:Nat}{x:Str}{pos':Pos}(hN:X.N.Nodup)(hi:X.N[i]?=some x)(hx:Loc X.env.scope x)(he:DF X e tf)(hs:swapsWith e (some (.Name x pos')) pos.line X.env=pure false:=by rfl)(hf:X.fn x=true\/X.env.scope.names.lookup x=some .local:=by first|exact .inl rfl|exact .inr rfl|assumption):
  DS X (.Assign [.Name x pos'] e pos) (znb i tf) :=
 DS.of (zca hN hi hx he.pe hs hf) λσ H H₀ σD Dn ok q=>⟨H₀,σD,_,ok,q,λa H1 vs xs s1 n e r1 q1=>⟨_,ok.setO s1 n e r1 i,s1.pers,q1⟩⟩
theorem zpq{i:Nat}{x:Str}{pos':Pos}(hN:X.N.Nodup)(hi:X.N[i]?=some x)(hx:Loc X.env.scope x)(he:DF X e tf)(hs:swapsWith e (some (.Name x pos')) pos.line X.env=pure false:=by rfl)(hf:X.fn x=true\/X.env.scope.names.lookup x=some .local:=by first|exact .inl rfl|exact .inr rfl|assumption):
  DS X (.Assign [.Name x pos'] e pos) (znc i tf):=⟨λpins s σ H H₀ σD Dn I ok q=>by
 refine thn (zca hN hi hx he.pe hs hf pins s σ H { nx:=λσ' H'=>∃a,Same H H'/\H a=none/\σ'=σ.set i (some (.ref a))/\(∃x y z:Int,H' a=some (.lst [.int x,.int y,.int z]))/\Dn.nx (σD.set i (some .pen)),rt:=λ_ _=>False } I ⟨H₀,σD,_,ok,q,λa H1 vs xs s1 n e r1 q1=>?_⟩) λf s' z=>?_
 ·obtain⟨⟨x,y,z,rfl⟩,q1⟩:=q1
  cases r1 with
  |cons r1 t=>cases t with
   |cons r2 t=>cases t with
    |cons r3 t=>
     cases t
     cases r1
     cases r2
     cases r3;exact⟨a,s1,n,rfl,⟨x,y,z,e⟩,q1⟩
 ·cases f with
  |next=>
   obtain⟨σ',H',I',a,sm,n,rfl,⟨x,y,z,e⟩,q⟩:=z;have sm2:Same H (upd H' a (zax a)):=λb u hb=>by rw[zv (ym hb n)];exact sm b u hb
   exact⟨_,_,_,I'.toPen e,(ok.after sm2).put (.pen zx) i,sm2.pers,q⟩
  |ret u=>obtain⟨_,_,_,_,_,z⟩:=z;exact z.elim
  |brk=>obtain⟨_,_,_,z⟩:=z;exact z.elim
  |cont=>obtain⟨_,_,_,z⟩:=z;exact z.elim⟩
def zti(te:DTE)(g:DTG):DTS:=λDn σ=>te σ λd=>g d σ Dn.nx
theorem y3{tg:Expr}{is:List Nat}{g:DTG}(he:DE X e te)(hg:DG X tg is g)(hs:swapsWithSole [tg] e pos.line X.env=pure false:=by rfl)(hw:swappedStores [tg] e X.env=pure none:=by rfl)
  (h1:(assignEach [tg] X.env).map (·.2) = [assign tg X.env]:=by rfl):DS X (.Assign [tg] e pos) (zti te g) :=
 DS.of (zhm he.pe hg.pg hs hw h1) λσ H H₀ σD Dn ok q=>⟨H₀,σD,_,ok,q,λv H1 d s1 r1 q1=>⟨H₀,σD,d,_,ok.after s1,r1,q1,λσ' σD' _ ok' _ q'=>⟨σD',ok',s1.pers,q'⟩⟩⟩
def ztj(i j:Nat)(t:DTF):DTS:=λDn σ=>t σ λds=>match ds with
 |[d,e]=>Dn.nx ((σ.set i (some (.val d))).set j (some (.val e)))
 |_=>False
theorem zfa{i j:Nat}{x y:Str}{a b:Expr}{px py pt:Pos}{kt k2 pt2}(hc:X.calm=true)(hN:X.N.Nodup)(hi:X.N[i]?=some x)(hj:X.N[j]?=some y)(hij:i≠j)
  (hx:X.env.scope.names.lookup x=some .local) (hy:X.env.scope.names.lookup y=some .local) (ha:DA X [a,b] tf)
  (hw:swappedStores [.Tuple [.Name x px,.Name y py] kt pt] (.Tuple [a,b] k2 pt2) X.env=pure (some [x,y]))
  (hs:swapsWithSole [.Tuple [.Name x px,.Name y py] kt pt] (.Tuple [a,b] k2 pt2) pos.line X.env=pure false:=by rfl) :
  DS X (.Assign [.Tuple [.Name x px,.Name y py] kt pt] (.Tuple [a,b] k2 pt2) pos) (ztj i j tf) :=
 DS.of (zry hc hN hi hj hij hx hy ha.pa hw hs) λσ H H₀ σD Dn ok q=>⟨H₀,σD,_,ok,q,λvs H1 ds s1 r1 q1=>by
  match ds,r1,q1 with
  |[d,e],r1,q1=>
   cases r1 with
   |cons p1 t1=>cases t1 with
    |cons p2 t2=>
     cases t2;exact⟨_,_,rfl,_,((ok.after s1).setV p1 i).setV p2 j,s1.pers,q1⟩⟩
def znd(i j k:Nat)(t:DTF):DTS:=λDn σ=>t σ λds=>match ds with
 |[d,e,f]=>Dn.nx (((σ.set i (some (.val d))).set j (some (.val e))).set k (some (.val f)))
 |_=>False
theorem zpr{i j k:Nat}{x y z:Str}{a b c:Expr}{px py pz pt:Pos}{kt k2 pt2}(hc:X.calm=true)(hN:X.N.Nodup)(hi:X.N[i]?=some x)(hj:X.N[j]?=some y)(hk:X.N[k]?=some z)(hij:i≠j)(hik:i≠k)(hjk:j≠k)
  (hx:X.env.scope.names.lookup x=some .local) (hy:X.env.scope.names.lookup y=some .local) (hz:X.env.scope.names.lookup z=some .local) (ha:DA X [a,b,c] tf)
  (hw:swappedStores [.Tuple [.Name x px,.Name y py,.Name z pz] kt pt] (.Tuple [a,b,c] k2 pt2) X.env=pure (some [x,y,z]))
  (hs:swapsWithSole [.Tuple [.Name x px,.Name y py,.Name z pz] kt pt] (.Tuple [a,b,c] k2 pt2) pos.line X.env=pure false:=by rfl) :
  DS X (.Assign [.Tuple [.Name x px,.Name y py,.Name z pz] kt pt] (.Tuple [a,b,c] k2 pt2) pos) (znd i j k tf) :=
 DS.of (zjo hc hN hi hj hk hij hik hjk hx hy hz ha.pa hw hs) λσ H H₀ σD Dn ok q=>⟨H₀,σD,_,ok,q,λvs H1 ds s1 r1 q1=>by
  match ds,r1,q1 with
  |[d,e,f],r1,q1=>
   cases r1 with
   |cons p1 t1=>cases t1 with
    |cons p2 t2=>cases t2 with
     |cons p3 t3=>
      cases t3;exact⟨_,_,_,rfl,_,(((ok.after s1).setV p1 i).setV p2 j).setV p3 k,s1.pers,q1⟩⟩
def dIf(c:DTT)(t u:DTS):DTS:=λDn σ=>c σ λb=>if b=true then t Dn σ else u Dn σ
theorem yw{c:Expr}{a b:List Stmt}{tc:DTT}(hc:DT X c tc)(ha:DSs X a t)(hb:DSs X b u):DS X (.If c a b pos) (dIf tc t u):=⟨λpins s σ H H₀ σD Dn I ok q=>by
 refine wpAny_If (thn (hc.run pins s σ H H₀ σD _ I ok q) λd s1 zr3=>?_);obtain⟨H1,I1,sm,q1⟩:=zr3
 cases d with
 |true=>exact thn (ha.run pins s1 σ H1 H₀ σD Dn I1 (ok.after sm) (by simpa using q1)) λ_ _ z=>z.back sm.pers
 |false=>exact thn (hb.run pins s1 σ H1 H₀ σD Dn I1 (ok.after sm) (by simpa using q1)) λ_ _ z=>z.back sm.pers⟩
def zne(c:DTT)(tb:DTS):DTS:=λDn σ=>∃Wv:Nat->DSt->Prop,(∃m,Wv m σ)/\∀m σ,Wv m σ->c σ λb=>if b=true then tb { Dn with nx:=λσ'=>∃m',m' < m/\Wv m' σ',ct:=λσ'=>∃m',m' < m/\Wv m' σ',bk:=Dn.nx } σ else Dn.nx σ
theorem zgi{c:Expr}{body:List Stmt}{tc:DTT}{tb:DTS}(hp:PassesOwn (model X.prog X.w) X.A X.env X.xe)(hc:DT X c tc)(hb:DSs X body tb):DS X (.While c body [] pos) (zne tc tb) :=
 DS.of (zl6 hp hc.pt hb.ps) λσ H H₀ σD Dn ok q=>by
  obtain⟨Wv,⟨m0,w0⟩,turn⟩:=q;refine⟨λm σ' H'=>∃σD',DOk X.K H₀ H' σD' σ'/\Pers H H'/\Wv m σD',⟨m0,σD,ok,Pers.refl _,w0⟩,?_⟩;rintro m σ' H' ⟨σD',ok',p',w'⟩;refine⟨H₀,σD',_,ok',turn m σD' w',λb H1 s1 q1=>?_⟩
  cases b with
  |true=>
   rw[if_pos rfl]at q1 ⊢;refine⟨λσ2 H2=>∃σD2,DOk X.K H₀ H2 σD2 σ2/\Pers H H2/\∃m',m' < m/\Wv m' σD2,λσ2 H2 zq95=>by obtain⟨σD2,ok2,p2,m',hm,w2⟩:=zq95;exact⟨m',hm,σD2,ok2,p2,w2⟩,H₀,σD',_,ok'.after s1,q1,λσ2 H2 σD2 ok2 p2 n2=>⟨σD2,ok2,(p'.trans s1.pers).trans p2,n2⟩,λv H2 r sm rp qr=>⟨r,sm,rp,qr⟩,λσ2 H2 σD2 ok2 p2 n2=>⟨σD2,ok2,(p'.trans s1.pers).trans p2,n2⟩,λσ2 H2 σD2 ok2 p2 n2=>⟨σD2,ok2,(p'.trans s1.pers).trans p2,n2⟩⟩
  |false=>
   rw[if_neg Bool.false_ne_true]at q1 ⊢;exact⟨σD',ok'.after s1,p'.trans s1.pers,q1⟩
theorem zd5{c:DTT}{tb:DTS}{Dn:wv}{σ:DSt}(Wv:Nat->DSt->Prop)(m0:Nat)(h0:Wv m0 σ)
  (hs:∀m σ (N:DSt->Prop),Wv m σ->(∀m' σ',m' < m->Wv m' σ'->N σ')->c σ λb=>if b=true then tb { Dn with nx:=N,ct:=N,bk:=Dn.nx } σ else Dn.nx σ):zne c tb Dn σ :=
 ⟨Wv,⟨m0,h0⟩,λm σ w=>hs m σ _ w λm' σ' h w'=>⟨m',h,w'⟩⟩
def zfb(g:DTG)(tb:DTS)(Dn:wv):List D->DSt->Prop
 |[],σ=>Dn.nx σ
 |d::ds,σ=>g d σ λσ2=>tb { Dn with nx:=zfb g tb Dn ds,ct:=zfb g tb Dn ds,bk:=Dn.nx } σ2
theorem xp{g:DTG}{tb:DTS}{Dn:wv}(Iv:List D->DSt->Prop)(hs:∀d ds σ (N:DSt->Prop),Iv (d::ds) σ->(∀σ',Iv ds σ'->N σ')->g d σ λσ2=>tb { Dn with nx:=N,ct:=N,bk:=Dn.nx } σ2)(hd:∀σ,Iv [] σ->Dn.nx σ):∀{ds:List D}{σ:DSt},Iv ds σ->zfb g tb Dn ds σ
 |[],σ,h=>hd σ h
 |d::ds,σ,h=>hs d ds σ _ h λσ' h'=>xp Iv hs hd h'
def ztk(ti:DTF)(g:DTG)(tb:DTS):DTS:=λDn σ=>ti σ λds=>zfb g tb Dn ds σ
theorem ka{tg iter:Expr}{body:List Stmt}{ti:DTF}{is:List Nat}{g:DTG}{tb:DTS}(hp:PassesOwn (model X.prog X.w) X.A X.env X.xe)(hc:X.calm=true)(hi:DI X tg iter ti)(hg:DG X tg is g)(hb:DSs X body tb)
  (hs:∀x,foldedSetIterable iter X.env x=pure x:=by intro _;rfl):DS X (.For tg iter body [] pos) (ztk ti g tb) :=
 DS.of (zr0 hp hc hi.pi hg.pg hb.ps hs) λσ H H₀ σD Dn ok q=>⟨H₀,σD,_,ok,q,λJ H1 ds s1 it q1=>by
  have sub:∀{i:Nat}{d:D}{σ':DSt},ds[i]?=some d->zfb g tb Dn (ds.drop i) σ'=g d σ' (λσ2=>tb { Dn with nx:=zfb g tb Dn (ds.drop (i+1)),ct:=zfb g tb Dn (ds.drop (i+1)),bk:=Dn.nx } σ2):=λ{i d σ'} e=>by
   obtain⟨hi,e'⟩:=List.getElem?_eq_some_iff.mp e;rw[List.drop_eq_getElem_cons hi,e'];rfl
  refine⟨λi m σ' H'=>m=ds.length-i/\i<=ds.length/\Pers H1 H'/\∃σD',DOk X.K H₀ H' σD' σ'/\zfb g tb Dn (ds.drop i) σD',⟨ds.length,rfl,Nat.zero_le _,Pers.refl _,σD,ok.after s1,q1⟩,?_⟩;rintro i m σ' H' ⟨rfl,hi,pr,σD',ok',q'⟩
  by_cases hlt:i<ds.length
  ·have e:ds[i]?=some ds[i]:=by simp[hlt]
   obtain⟨go,yl⟩:=it.go H' i ds[i] pr e;rw[sub e]at q';refine .inr ⟨go,λσ2 H2=>Pers H1 H2/\∃σD2,DOk X.K H₀ H2 σD2 σ2/\zfb g tb Dn (ds.drop (i+1)) σD2,λσ2 H2 zq18=>by obtain⟨p2,σD2,ok2,q2⟩:=zq18;exact⟨ds.length-(i+1),by omega,rfl,hlt,p2,σD2,ok2,q2⟩,λx H2 y=>?_⟩;obtain⟨s2,r2⟩:=yl x H2 y;have p2:=pr.trans s2.pers;refine⟨H₀,σD',ds[i],_,ok'.after s2,r2,q',λσ3 σD3 _ ok3 _ q3=>?_⟩;exact⟨H₀,σD3,_,ok3,q3,λσ4 H4 σD4 ok4 p4 q4=>⟨p2.trans p4,σD4,ok4,q4⟩,λv H4 r sm rp qr=>⟨r,sm,rp,qr⟩,λσ4 H4 σD4 ok4 p4 q4=>⟨σD4,ok4,(s1.pers.trans p2).trans p4,q4⟩,λσ4 H4 σD4 ok4 p4 q4=>⟨p2.trans p4,σD4,ok4,q4⟩⟩
  ·have e:i=ds.length:=by omega
   subst e;rw[List.drop_length]at q';exact .inl ⟨it.stop H' pr,σD',ok',s1.pers.trans pr,q'⟩⟩
variable {ta tb:DTE}
def zps(i:Nat)(te:DTE):DTS:=λDn σ=>match σ[i]? with
 |some (some (.own (.lst xs)))=>te σ λd=>xs.length<sizeLine/\Dn.nx (clr (σ.set i (some (.own (.lst (xs ++ [d]))))))
 |_=>False
theorem vx(i:Nat){x:Str}{p1 apos cpos:Pos}(he:DE X e te)(hN:X.N[i]?=some x:=by rfl)(hv:Vis X.env.scope x:=by first|exact Or.inl rfl|exact Or.inr (Or.inl rfl)|exact Or.inr (Or.inr rfl))(hd:(x ==("__debug__" : Str))=false:=by decide)
  (hcd:(x ==("__classdict__" : Str))=false:=by decide)
  (hbase:attributeBase (.Name x p1) "append" X.env (eval (.Name x p1) X.env)=eval (.Name x p1) X.env:=by rfl)
  (hfew:((backTo cpos (starEach (e :: []) X.env)).all (λx=>!x.1) && (backToKw cpos (keywordEach [] X.env)).all (λx=>x.1.isSome)
   && decide ((e :: []).length+([]:List Keyword).length+(if ([]:List Keyword).isEmpty then 0 else 1)<30))=true:=by rfl)
  (hline:(apos.endLine == cpos.line)=true:=by rfl) (hst:starEach (e :: []) X.env=(false,eval e X.env)::starEach [] X.env:=by rfl) (hplain:(backTo cpos (starEach [] X.env)).any (·.1)=false:=by rfl)
  (hs:swapsWith (.Call (.Attribute (.Name x p1) "append" apos) [e] [] cpos) none pos.line X.env=pure false:=by rfl):DS X (.Expr (.Call (.Attribute (.Name x p1) "append" apos) [e] [] cpos) pos) (zps i te) :=
 DS.of (zjg (zmd PySem.F.plainAttrs_list PySem.F.slot_list_append PySem.F.type_list_append zdx (x3 (i:=i) hN hv hd hcd) (xh he.pe wm hst) hbase hfew hline hst hplain) hs) λσ H H₀ σD Dn ok q=>by
  unfold zps at q
  split at q
  ·next xs eo=>
   obtain⟨a,vs,e1,e2,r,n⟩:=ok.ownL eo;refine⟨.ref a,e1,.inl ⟨rfl,vs,SqL.of e2⟩,H₀,σD,_,ok,q,λv H1 d s1 r1 q1=>?_⟩;refine⟨a,vs,v,rfl,rfl,s1 _ _ e2,by rw[<-r.length];exact q1.1,_,(ok.after s1).write eo e1 (s1 _ _ e2) ((r.same s1).append (.cons r1 .nil)),s1.pers.trans (wn (s1 _ _ e2) rfl),q1.2⟩
  ·exact q.elim
end
def zcm(N:List Str)(ws:List W):DSt:=ws.map some++List.replicate (N.length-ws.length) none
section
variable {P:Program}{w:World}{K:PySem.W.Frag}{mg:Str->Option Value}{base:Heap}
theorem DOk.begin{H:Hp}{ws:List W}{vs:List V}(r:RepWs K H ws vs)(N:List Str):DOk K H H (zcm N ws) (jp N vs):=by
 refine⟨Same.refl _,[],?_,List.nodup_nil,λa ha=>by cases ha⟩;unfold zcm jp;rw[<-r.length];generalize N.length-ws.length=n;have rep:∀n:Nat,Slots K H H (List.replicate n none) (List.replicate n none) []:=λn=>by
  induction n with
  |zero=>exact .nil
  |succ n ih=>exact .none ih
 induction r with
 |nil=>exact rep n
 |@cons w' v ws vs r t ih=>
  cases w' with
  |val d=>exact .val r ih
  |vw xs=>exact .vw r ih
  |vd xs=>exact .vd r ih
  |exc xs=>exact .exc r ih
  |scr ns=>obtain⟨a,rfl,r⟩:=r;exact .scr r ih
  |pen=>obtain⟨a,rfl,r⟩:=r;exact .pen r ih
  |tmp d=>exact r.elim
  |own o=>exact r.elim
theorem Fun.dok{x qual:Str}{st:Stmt}{f:Addr}{fd:FuncData}{N ps:List Str}{k:Nat}{sp:DSp}(F:Fun K x qual st f fd)(S:zy N ps (zp st))(len:∀ws Q,sp ws Q->ws.length=ps.length)
  (hbody:∀(cdv:Value) (A:Around) (outer:List Env) (s:Shared) (H:Hp) (ws:List W) (Q:Ret->Prop) (E:XK),Room k (A.deeper (envOfC qual (zp st) s.heap.objs.size f cdv))->sp ws Q ->
   ∃t,DSs (zhu CX0 P w K mg base N qual (zp st) f cdv A outer s H E).nox (wf st) t/\t { nx:=λ_=>Q (.val .none),rt:=Q } (zcm N ws)):FnOk P w K mg base CX0 (k+1) f fd ps (ya K sp):=by
 refine F.ok S (λvs H Q E h=>?_) λcdv A outer s H vs Q E hr h=>?_
 ·obtain⟨ws,QD,r,q,_⟩:=h;rw[<-r.length];exact len ws QD q
 ·obtain⟨ws,QD,r,q,kk⟩:=h;obtain⟨t,ht,hq⟩:=hbody cdv A outer s H ws QD E hr q;refine⟨_,ht.ps,H,_,_,DOk.begin r N,hq,λσ' H' σD' ok' p' q'=>kk .non H' (.val .none) ok'.same .non q',λv H' r' sm rp qr=>kk v H' r' sm rp qr,λ_ _ _ _ _ z=>z.elim,λ_ _ _ _ _ z=>z.elim⟩
end
def znf:Sp:=λvs H Q _=>∃(p:Addr) (m:Int),vs = [.ref p,.int m]/\0<m/\m<10000000000000000000000000000000000000000000000000000000000000/\Pen H p/\∀(v:Int) H',0<=v->v<m->Pen H' p->But p H H'->Q (.int v) H'
def yx:DSp:=λws Q=>∃m:Int,ws = [.pen,.val (.int m)]/\0<m/\m<10000000000000000000000000000000000000000000000000000000000000/\∀v:Int,0<=v->v<m->Q (.val (.int v))
theorem ztl{P:Program}{w:World}{K:PySem.W.Frag}{mg:Str->Option Value}{base:Heap}{k:Nat}{f:Addr}{fd:FuncData}{ps:List Str}(F:FnOk P w K mg base CX0 k f fd ps znf):FnOk P w K mg base CX0 k f fd ps (ya K yx):=by
 refine⟨λvs H Q E h=>?_,λA outer s H args us vs Q E hr e0 hb hv hs=>?_⟩
 ·obtain⟨ws,QD,rw',⟨m,rfl,hm,hM,q⟩,kk⟩:=h
  cases rw' with
  |cons r1 t=>cases t with
   |cons r2 t=>
    cases t;obtain⟨p,rfl,hp⟩:=r1;have r2:Rep K H (.int m) _:=r2
    cases r2;exact F.len [.ref p,.int m] (upd H p (.lst [.int 0,.int 0,.int 0])) (λ_ _=>True) E ⟨p,m,rfl,hm,hM,⟨0,0,0,zx⟩,λ_ _ _ _ _ _=>trivial⟩
 ·obtain⟨ws,QD,rw',⟨m,rfl,hm,hM,q⟩,kk⟩:=hs
  cases rw' with
  |cons r1 t=>cases t with
   |cons r2 t=>
    cases t;obtain⟨p,rfl,hp⟩:=r1;have r2:Rep K H (.int m) _:=r2
    cases r2;obtain⟨⟨x,y,z,tx,ty,tz,n,e⟩,_,_⟩:=e0.hok p _ hp;have mu:Mut (H p):=by rw[hp];exact trivial
    have hok1:HOk P w (upd H p (.lst [.int x,.int y,.int z])) s.heap:=e0.hok.write (h':=s.heap) mu (.inl rfl) (λb u _ q=>q) ⟨_,e⟩ ⟨by show 3<=sizeLine;decide,[_,_,_],n,.cons ⟨_,rfl⟩ (.cons ⟨_,rfl⟩ (.cons ⟨_,rfl⟩ .nil)),e⟩;have nn:∀b,H b=none->b≠p:=λb h z=>by rw[z,hp]at h;cases h
    have e1:zhs P w K mg base A outer s (upd H p (.lst [.int x,.int y,.int z])):=⟨e0.frames,e0.mod,λb o h=>⟨(e0.bs b o h).1,by rw[zv (nn b (e0.bs b o h).2)];exact(e0.bs b o h).2⟩,e0.bsz,e0.funs,λb hb=>by rw[zv (nn b (e0.frf b hb))];exact e0.frf b hb,hok1,e0.bare⟩
    refine codeAny_mono (F.run A outer s _ args us [.ref p,.int m] (λv H'=>∃i,v=.int i/\0<=i/\i<m/\Pen H' p/\But p (upd H p (.lst [.int x,.int y,.int z])) H') E hr e1 hb hv ⟨p,m,rfl,hm,hM,⟨x,y,z,zx⟩,λv H' h1 h2 h3 h4=>⟨v,rfl,h1,h2,h3,h4⟩⟩) λr s' z=>?_
    cases r with
    |error e=>exact z
    |ok fl=>
     cases fl with
     |ret u=>
      obtain⟨v,H',os,bare,un,hok',rv,i,rfl,h1,h2,⟨a',b',c',hp'⟩,bt⟩:=z;obtain⟨zz,its,n',r',e'⟩:=hok' p _ hp';have pk:∃(x y z:Int) (tx ty tz:Tok),its = [.int x tx,.int y ty,.int z tz]:=by
       cases r' with
       |cons r1 r=>cases r with
        |cons r2 r=>cases r with
         |cons r3 r=>
          cases r;obtain⟨t1,rfl⟩:=r1;obtain⟨t2,rfl⟩:=r2;obtain⟨t3,rfl⟩:=r3;exact⟨_,_,_,_,_,_,rfl⟩
      obtain⟨x',y',z',tx',ty',tz',rfl⟩:=pk;have np:∀{b:Addr}{u:HO},H b=some u->u≠zax p->b≠p:=λ{b u} h n z=>by rw[z,hp]at h;cases h;exact n rfl
      have hpen:∀{b:Addr},b≠p->upd H' p (zax p) b=H' b:=λh=>zv h;refine⟨.int i,upd H' p (zax p),os,bare,⟨λb o h n'=>un.keep b o h (by rw[zv (nn b n')];exact n'),λb o h n'=>un.slot b o h (by rw[zv (nn b n')];exact n'),λb o h n' hx=>?_,un.there,λb xs h=>?_,λb o u h=>?_,λb ps h=>?_⟩,?_,rv,kk (.int i) _ (.val (.int i)) (λb o h=>?_) (show Rep K _ (.int i) (.int i) from .int) (q i h1 h2)⟩
      ·rw[hpen (nn b n')];exact un.free b o h (by rw[zv (nn b n')];exact n') hx
      ·have nb:=np h (by unfold zax;intro z;cases z);rw[hpen nb];exact un.tups b xs (by rw[zv nb];exact h)
      ·have nb:=np h (by unfold zax;intro z;cases z);rw[hpen nb];exact un.frzs b o u (by rw[zv nb];exact h)
      ·have nb:=np h (by unfold zax;intro z;cases z);obtain⟨more,e2⟩:=un.tbls b ps (by rw[zv nb];exact h);exact⟨more,by rw[hpen nb];exact e2⟩
      ·exact hok'.write (h':=s'.heap) (by rw[hp'];exact trivial) (.inl rfl) (λb u _ q=>q) ⟨_,e'⟩ (zjp e')
      ·by_cases hb:b=p
       ·subst hb;rw[hp]at h
        cases h;exact zx
       ·rw[zv hb];exact bt b o hb (by rw[zv hb];exact h)
     |next=>exact z
     |brk=>exact z
     |cont=>exact z
section
variable {prog:Program}{w:World}{A:Around}{E:Value->Shared->Prop}{s:Shared}
theorem zd6{it t:Addr}{items:Array Value}(hne:t≠it):∀(n i:Nat) (s:Shared) (Q:List Value->Shared->Prop),s.heap.IsListIter it t i->s.heap.IsList t items->i+n<=items.size ->
  (∀h',h'.IsListIter it t (i+n)->Heap.SameBut it s.heap h'->Q ((items.toList.drop i).take n) { s with heap:=h' })->wpAny (model prog w) A (draw (.ref it) n) Q E s
 |0,i,s,Q,hit,_,_,hQ=>by
  show wpAny _ _ (pure []) Q E s;exact wpAny_pure (by simpa using hQ s.heap hit (Heap.SameBut.refl ..))
 |n+1,i,s,Q,hit,ht,hle,hQ=>by
  have hlt:i<items.size:=by omega
  show wpAny _ _ (pyNext (.ref it) >>= _) Q E s;refine wpAny_bind (wpAny_pyNext_list_item hit ht (x:=items[i]) (by simp[hlt]) λh₁ hit₁ hs₁=>?_);have ht1:h₁.IsList t items:=by obtain⟨o,e,r⟩:=ht;exact⟨o,(hs₁.2 t hne).trans e,r⟩
  refine wpAny_bind (wpAny_holding (zd6 hne n (i+1) _ _ hit₁ ht1 (by omega) λh₂ hit₂ hs₂=>wpAny_pure ?_));have hd:items.toList.drop i=items[i]::items.toList.drop (i+1):=by simp[List.drop_eq_getElem_cons,hlt]
  have:=hQ h₂ (by rw[show i+(n+1)=i+1+n by omega];exact hit₂) (hs₁.trans hs₂);rw[hd,List.take_succ_cons]at this;exact this
theorem za1{t:Addr}{items:Array Value}{Q:List Value->Shared->Prop}(hh:A.handled=none)(ht:s.heap.IsList t items)
  (hQ:∀h',Heap.ExtBut s.heap.objs.size s.heap h'->Q items.toList { s with heap:=h' }):wpAny (model prog w) A (unpackItems (.ref t) items.size none) Q E s:=by
 have hlt:t≠s.heap.objs.size:=by obtain⟨o,ho,_⟩:=ht;exact Nat.ne_of_lt (Heap.lt_size ho)
 have push:∀o:Obj,(s.heap.push o).IsList t items:=λo=>by obtain⟨o',e,r⟩:=ht;exact⟨o',Heap.get?_push_of_some _ e,r⟩
 unfold unpackItems;refine wpAny_bind ?_
 ·unfold notIterableAtAll;refine wpAny_bind (wpAny_specialOf ht.typeIs slot_list_iter.lookup ?_);refine wpAny_pure ?_;simp only[Bool.false_eq_true,if_false];refine wpAny_bind (wpAny_holding (wpAny_pyIter_list ht ?_));refine wpAny_bind (wpAny_holding (zd6 hlt items.size 0 _ _ ⟨_,Heap.get?_push_size _ rfl,rfl,rfl⟩ (push _) (by omega) λh₁ hit₁ hs₁=>?_))
  have hall:List.take items.size (List.drop 0 items.toList)=items.toList:=by
   rw[List.drop_zero];exact List.take_of_length_le (by simp)
  rw[hall];rw[if_neg (by simp)];have ht₁:h₁.IsList t items:=by obtain⟨o',e,r⟩:=push { cls:=.type "list_iterator",data:=.fields #[.ref t,.int 0 0] };exact⟨o',(hs₁.2 t hlt).trans e,r⟩
  refine wpAny_bind (wpAny_holding (wpAny_pyNext_list_end hh hit₁ ht₁ (by simp) λh₂ he₂=>?_));simp only[Option.isSome_none,Bool.false_eq_true,if_false];refine wpAny_pure (hQ h₂ λb o hb e=>he₂ b o hb (hs₁.extBut b o hb (Heap.get?_push_of_some _ e)))
theorem zad{env:Env}{elts:List Expr}{x1}{pos:Pos}{t:Addr}{items:Array Value}{Q:Unit->Shared->Prop}(hh:A.handled=none)(ht:s.heap.IsList t items)
  (hn:(assignEach elts env).length=items.size) (hstar:(assignEach elts env).findIdx? (·.1)=none)
  (h:∀h',Heap.ExtBut s.heap.objs.size s.heap h'->wpAny (model prog w) A (assignInOrder ((assignEach elts env).map (·.2)) items.toList) Q E { s with heap:=h' }) :
  wpAny (model prog w) A (assign (.Tuple elts x1 pos) env (.ref t)) Q E s:=by
 rw[assign_Tuple];refine wpAny_bind (wpAny_standAt ?_);unfold unpack;rw[hn,hstar];exact wpAny_bind (wpAny_holding (za1 hh ht h))
end
section
variable {X:Cx}{tg iter e:Expr}{es:List Expr}{te:DTE}{tf:DTF}{p pos:Pos}
def zng(n:Nat)(gs:ze8):DTG:=λd σ Q=>match d with
 |.tuple xs=>xs.length=n/\gs xs σ Q
 |.list xs=>xs.length=n/\gs xs σ Q
 |_=>False
theorem yq{k:Nat}{is:List Nat}{gs:ze8}{n:Nat}(hc:X.calm=true)(h:DGs X es is gs)(hn:(assignEach es X.env).length=n:=by rfl)(hst:(assignEach es X.env).findIdx? (·.1)=none:=by rfl):DG X (.Tuple es k pos) is (zng n gs):=⟨λpins s σ H H₀ σD v u d Q I ok r rp q=>by
 cases d with
 |tuple xs=>exact(ztf (k:=k) (pos:=pos) hc h hn hst).run pins s σ H H₀ σD v u _ Q I ok r rp q
 |list xs=>
  obtain⟨hl,q⟩:=q
  cases rp with
  |lst hq rr=>
   cases r;obtain⟨its,rv,ht,hz⟩:=I.list (.inl (.inr ⟨_,hq⟩));refine zad (I.ok.hd hc) ht.isList (by simp[hn,<-hl,<-rv.length,rr.length]) hst λh' hx=>?_;have I1:Inv X pins σ H { s with heap:=h' }:=I.kept (t':=s.toks) λb o e=>hx b o (Nat.ne_of_lt (Heap.lt_size e)) e;exact h.run pins _ σ H H₀ σD _ _ xs Q I1 ok (by simpa using rv) rr q
 |_=>exact q.elim⟩
variable {elt:Expr}{ifs:List Expr}{scope:Scope}{cl:List (Str×Addr)}{N' capt:List Str}{k:Nat}{js is:List Nat}{ti:DTF}{g:DTG}{tt:DTT}
inductive RepRs(K:PySem.W.Frag):Hp->Hp->List Ret->List V->Prop
 |nil {H H':Hp} (s:Same H H'):RepRs K H H' [] []
 |val {H H1 H':Hp}{d:D}{v:V}{rs:List Ret}{vs:List V} (s:Same H H1) (r:Rep K H1 d v) (t:RepRs K H1 H' rs vs):RepRs K H H' (.val d::rs) (v::vs)
 |new {H H1 H':Hp}{xs:List D}{a:Addr}{ws:List V}{rs:List Ret}{vs:List V} (s:Same H H1) (n:H a=none) (e:H1 a=some (.lst ws)) (r:Reps K H1 xs ws) (t:RepRs K H1 H' rs vs):RepRs K H H' (.new xs::rs) (.ref a::vs)
theorem RepRs.same{K:PySem.W.Frag}{H H':Hp}{rs:List Ret}{vs:List V}(h:RepRs K H H' rs vs):Same H H':=by
 induction h with
 |nil s=>exact s
 |val s _ _ ih=>exact s.trans ih
 |new s _ _ _ _ ih=>exact s.trans ih
theorem RepRs.more{K:PySem.W.Frag}{H H':Hp}{rs:List Ret}{vs:List V}(h:RepRs K H H' rs vs){H2:Hp}(s2:Same H' H2):RepRs K H H2 rs vs:=by
 induction h with
 |nil s=>exact .nil (s.trans s2)
 |val s r _ ih=>exact .val s r (ih s2)
 |new s n e r _ ih=>exact .new s n e r (ih s2)
theorem RepRs.length{K:PySem.W.Frag}{H H':Hp}{rs:List Ret}{vs:List V}(h:RepRs K H H' rs vs):rs.length=vs.length:=by
 induction h with
 |nil s=>rfl
 |val s _ _ ih=>simp[ih]
 |new s _ _ _ _ ih=>simp[ih]
def Ret.w:Ret->W
 |.val d=>.val d
 |.new xs=>.own (.lst xs)
def znh:List Nat->List Ret->DSt->DSt
 |i::is,r::rs,σ=>znh is rs (σ.set i (some r.w))
 |_,_,σ=>σ
def zni:List Nat->List V->St->St
 |i::is,v::vs,σ=>zni is vs (σ.set i (some v))
 |_,_,σ=>σ
theorem DOk.multi{K:PySem.W.Frag}{H₀ H H':Hp}{rs:List Ret}{vs:List V}(h:RepRs K H H' rs vs):∀{σD:DSt}{σ:St} (is:List Nat),DOk K H₀ H σD σ->DOk K H₀ H' (znh is rs σD) (zni is vs σ):=by
 induction h with
 |nil s=>intro σD σ is ok;cases is <;> exact ok.after s
 |val s r t ih=>
  intro σD σ is ok
  cases is with
  |nil=>exact(ok.after s).after t.same
  |cons i is=>exact ih is ((ok.after s).setV r i)
 |new s n e r t ih=>
  intro σD σ is ok
  cases is with
  |nil=>exact(ok.after s).after t.same
  |cons i is=>exact ih is (ok.setO s n e r i)
abbrev DTM:=DSt->(List Ret->Prop)->Prop
structure DM(X:Cx)(es:List Expr)(t:DTM):Prop where
 run:∀(pos:Pos) (pins:List (Addr×Obj)) (s:Shared) (σ:St) (H H₀:Hp) (σD:DSt) (Q:List Ret->Prop),Inv X pins σ H s->DOk X.K H₀ H σD σ->t σD Q ->
  wpAny (model X.prog X.w) X.A (spliced (backTo pos (starEach es X.env))) (λus s'=>∃vs H' rs,Inv X pins σ H' s'/\Vals vs us/\RepRs X.K H H' rs vs/\Q rs) X.xe s
def cnM(K:PySem.W.Frag)(t:DTM):TA:=λσ H Q=>∃H₀ σD QD,DOk K H₀ H σD σ/\t σD QD/\∀vs H' rs,RepRs K H H' rs vs->QD rs->Q vs H'
theorem DM.pa{t:DTM}(h:DM X es t):PA X es (cnM X.K t):=λpos pins s σ H Q I zq65=>by obtain⟨H₀,σD,QD,ok,q,k⟩:=zq65;exact thn (h.run pos pins s σ H H₀ σD QD I ok q) λus s' zq60=>by obtain⟨vs,H',rs,I',r,rp,qd⟩:=zq60;exact⟨vs,H',I',r,k vs H' rs rp qd⟩
def znj:DTM:=λ_ Q=>Q []
def znk(t:DTE)(r:DTM):DTM:=λσ Q=>t σ λd=>r σ λrs=>Q (.val d::rs)
def znl(t:DTF)(r:DTM):DTM:=λσ Q=>t σ λxs=>r σ λrs=>Q (.new xs::rs)
theorem ztm:DM X [] znj:=⟨λpos pins s σ H H₀ σD Q I ok q=>thn (wm pos pins s σ H (λvs H'=>vs = []/\H'=H) I ⟨rfl,rfl⟩) λus s' zq48=>by obtain⟨vs,H',I',r,e1,e2⟩:=zq48;subst e1 e2;exact⟨[],H',[],I',r,.nil (Same.refl _),q⟩⟩
theorem znm{r:DTM}(ha:DE X e te)(hr:DM X es r)(hs:starEach (e::es) X.env=(false,eval e X.env)::starEach es X.env:=by rfl):DM X (e::es) (znk te r):=⟨λpos pins s σ H H₀ σD Q I ok q=>by
 refine thn (xh ha.pe hr.pa hs pos pins s σ H (λvs H'=>∃rs,RepRs X.K H H' rs vs/\Q rs) I ?_) λus s' zq10=>by obtain⟨vs,H',I',r,rs,rp,qd⟩:=zq10;exact⟨vs,H',rs,I',r,rp,qd⟩
 exact⟨H₀,σD,_,ok,q,λv H1 d s1 r1 q1=>⟨H₀,σD,_,ok.after s1,q1,λvs H2 rs r2 q2=>⟨.val d::rs,.val s1 r1 r2,q2⟩⟩⟩⟩
theorem ztn{r:DTM}(ha:DF X e tf)(hr:DM X es r)(hs:starEach (e::es) X.env=(false,eval e X.env)::starEach es X.env:=by rfl):DM X (e::es) (znl tf r):=⟨λpos pins s σ H H₀ σD Q I ok q=>by
 refine thn (xh ha.pe hr.pa hs pos pins s σ H (λvs H'=>∃rs,RepRs X.K H H' rs vs/\Q rs) I ?_) λus s' zq10=>by obtain⟨vs,H',I',r,rs,rp,qd⟩:=zq10;exact⟨vs,H',rs,I',r,rp,qd⟩
 exact⟨H₀,σD,_,ok,q,λa H1 ws xs s1 n e r1 q1=>⟨H₀,σD,_,ok.after s1,q1,λvs H2 rs r2 q2=>⟨.new xs::rs,.new s1 n e r1 r2,q2⟩⟩⟩⟩
def znn(is:List Nat)(t:DTM):DTS:=λDn σ=>t σ λrs=>rs.length=is.length/\Dn.nx (znh is rs σ)
theorem zno{tm:DTM}{i j k:Nat}{x y z:Str}{a b c:Expr}{px py pz pt:Pos}{kt k2 pt2}(hc:X.calm=true)(hN:X.N.Nodup)(hi:X.N[i]?=some x)(hj:X.N[j]?=some y)(hk:X.N[k]?=some z)(hij:i≠j)(hik:i≠k)(hjk:j≠k)
  (hx:X.env.scope.names.lookup x=some .local) (hy:X.env.scope.names.lookup y=some .local) (hz:X.env.scope.names.lookup z=some .local) (ha:DM X [a,b,c] tm)
  (hw:swappedStores [.Tuple [.Name x px,.Name y py,.Name z pz] kt pt] (.Tuple [a,b,c] k2 pt2) X.env=pure (some [x,y,z]))
  (hs:swapsWithSole [.Tuple [.Name x px,.Name y py,.Name z pz] kt pt] (.Tuple [a,b,c] k2 pt2) pos.line X.env=pure false:=by rfl) :
  DS X (.Assign [.Tuple [.Name x px,.Name y py,.Name z pz] kt pt] (.Tuple [a,b,c] k2 pt2) pos) (znn [i,j,k] tm) :=
 DS.of (zjo hc hN hi hj hk hij hik hjk hx hy hz ha.pa hw hs) λσ H H₀ σD Dn ok q=>⟨H₀,σD,_,ok,q,λvs H1 rs r1 q1=>by
  have hl:=r1.length
  match vs,rs,r1,q1,hl with
  |[v,w',w2],[r,r',r2],r1,q1,_=>exact⟨v,w',w2,rfl,_,DOk.multi r1 [i,j,k] ok,r1.same.pers,q1.2⟩
  |[],rs,r1,q1,hl=>exact absurd (hl.symm.trans q1.1) (by simp)
  |[_],rs,r1,q1,hl=>exact absurd (hl.symm.trans q1.1) (by simp)
  |[_,_],rs,r1,q1,hl=>exact absurd (hl.symm.trans q1.1) (by simp)
  |_::_::_::_::_,rs,r1,q1,hl=>exact absurd (hl.symm.trans q1.1) (by simp)⟩
structure DGN(X:Cx)(es:List Expr)(is:List Nat):Prop where
 pgs:PGs X es (λvs σ H Q=>vs.length=is.length/\Q (zni is vs σ) H)
section
variable {pins:List (Addr×Obj)}{σ:St}{H:Hp}{s:Shared}
end
def zvw(X:Cx)(pins:List (Addr×Obj))(σ:St)(H:Hp)(Q:D->Prop)(u:Value)(s':Shared):Prop:=∃v H' d,Inv X pins σ H' s'/\RelV v u/\Same H H'/\RepN X.K H' d v/\Q d
structure DN(X:Cx)(e:Expr)(t:DTE):Prop where
 run:∀(pins:List (Addr×Obj)) (s:Shared) (σ:St) (H H₀:Hp) (σD:DSt) (Q:D->Prop),Inv X pins σ H s->DOk X.K H₀ H σD σ->t σD Q->wpAny (model X.prog X.w) X.A (eval e X.env) (zvw X pins σ H Q) X.xe s
structure DAn(X:Cx)(es:List Expr)(t:DTF):Prop where
 run:∀(pos:Pos) (pins:List (Addr×Obj)) (s:Shared) (σ:St) (H H₀:Hp) (σD:DSt) (Q:List D->Prop),Inv X pins σ H s->DOk X.K H₀ H σD σ->t σD Q ->
  wpAny (model X.prog X.w) X.A (spliced (backTo pos (starEach es X.env))) (λus s'=>∃vs H' ds,Inv X pins σ H' s'/\Vals vs us/\Same H H'/\RepNs X.K H' ds vs/\Q ds) X.xe s
theorem DN.of{t:DTE}{t':TE}(h:PE X e t')(k:∀σ H H₀ σD QD,DOk X.K H₀ H σD σ->t σD QD->t' σ H (λv H'=>∃d,Same H H'/\RepN X.K H' d v/\QD d)):DN X e t :=
 ⟨λpins s σ H H₀ σD Q I ok q=>thn (h pins s σ H _ I (k σ H H₀ σD Q ok q)) λu s' zq80=>by obtain⟨v,H',I',r,d,sm,rp,qd⟩:=zq80;exact⟨v,H',d,I',r,sm,rp,qd⟩⟩
theorem RepNs.length{K:PySem.W.Frag}{H:Hp}{ds:List D}{vs:List V}(h:RepNs K H ds vs):ds.length=vs.length:=h.ind (P:=λds vs=>ds.length=vs.length) rfl λ_ _ _ _ _ _ j=>congrArg (·+1) j
end
section
variable {X:Cx}{tg iter e:Expr}{es:List Expr}{te:DTE}{tf:DTF}{p pos:Pos}
def znp:List D->(D->Prop)->Prop
 |[.list xs],Q=>∃ns,jr xs=some ns/\0<ns.length/\∀m:Int,m∈ns->(∀a∈ns,a<=m)->Q (.int m)
 |_,_=>False
theorem zli(hc:X.calm=true):xy X (.builtin "max") (λvs H Q=>∃(l:Addr) (ns:List Int),vs = [.ref l]/\SqL X.K H l (ns.map V.int)/\0<ns.length/\∀m:Int,m∈ns->(∀a∈ns,a<=m)->Q (.int m) H):=by
 intro pins s σ H xs us Q I rv h;obtain⟨l,ns,rfl,hq,hne,q⟩:=h;obtain⟨u,rfl,r1⟩:=rv.one
 cases r1;obtain⟨its,rvs,pl,hz⟩:=I.list hq;have hi:IntsAre its ns:=xk rvs;obtain⟨xs,e⟩:=hi.allInts.items;have hns:ns=xs.toList.map (·.1):=by rw[<-hi.numsOf,<-nums_intItems,<-e]
 have hsz:0<xs.size:=by have h3:=hne;rw[hns,List.length_map,Array.length_toList]at h3;exact h3
 have hl:s.heap.IsList l (intItems xs):=by rw[<-e];exact pl.isList
 refine max_intList (I.ok.hd hc) hl hsz λv h' tk hv hk=>?_;obtain⟨t,rfl⟩:=intItems_at hv;obtain⟨h1,h2⟩:=argBest_gt (numAt xs) (xs.size-1);refine⟨.int _,H,I.kept hk,⟨t,rfl⟩,q _ ?_ λa ha=>?_⟩
 ·rw[hns,numAt_eq];exact getD_mem (by rw[List.length_map,Array.length_toList];omega)
 ·rw[hns]at ha;obtain⟨j,hj,rfl⟩:=mem_getD ha;rw[List.length_map,Array.length_toList]at hj;rw[<-numAt_eq];exact h2 j (by omega)
theorem zto(hc:X.calm=true):CallD X (.builtin "max") znp:=CallD.of (zli hc) λvs H ds Q rd q=>by
 match ds,q,rd with
 |[.list xs],q,rd=>
  obtain⟨v,rfl,r⟩:=rd.one;obtain⟨a,vs,rfl,h,r⟩:=r.list.sq;obtain⟨ns,e,hl,q⟩:=q
  cases zaz r e;exact⟨a,ns,rfl,h,hl,λm h1 h2=>⟨_,Same.refl _,.int,q m h1 h2⟩⟩
end
section
variable {prog:Program}{w:World}{A:Around}{E:Value->Shared->Prop}{s:Shared}
end
section
variable {X:Cx}{a:Expr}{t:DTF}{p pos:Pos}
end
theorem zb6{α:Type}{f:D->(Option D->Prop)->Prop}(enc:α->D)(F:α->Option D){as:List α}{Q:List D->Prop}(h:∀a∈as,∀k:Option D->Prop,k (F a)->f (enc a) k)(q:Q (as.filterMap F)):lcD f (as.map enc) Q:=by
 induction as generalizing Q with
 |nil=>exact q
 |cons a as ih=>
  refine h a List.mem_cons_self _ (ih (λe he=>h e (List.mem_cons_of_mem _ he)) ?_);rw[List.filterMap_cons]at q
  cases e:F a with
  |none=>rw[e]at q;exact q
  |some y=>rw[e]at q;exact q
theorem xq{α:Type}{f:D->(Option D->Prop)->Prop}(enc:α->D)(F:α->D){as:List α}{Q:List D->Prop}(h:∀a∈as,∀k:Option D->Prop,k (some (F a))->f (enc a) k)(q:Q (as.map F)):lcD f (as.map enc) Q :=
 zb6 enc (λa=>some (F a)) h (by rw[List.filterMap_eq_map'];exact q)
theorem zlj{f:D->(Option D->Prop)->Prop}{lo:Int}{n:Nat}{Q:List D->Prop}(F:Nat->D)(h:∀i,i<n->∀k:Option D->Prop,k (some (F i))->f (.int (lo+(i:Nat))) k)(q:Q ((List.range n).map F)):lcD f (y6 lo n) Q:=by
 unfold y6;exact xq (λi:Nat=>PyData.int (lo+(i:Nat))) F (λa ha=>h a (List.mem_range.mp ha)) q
theorem zju{α:Type}{Pv:α->Prop}{enc:α->D}:∀{ys:List D},(∀y∈ys,∃a,y=enc a/\Pv a)->∃as:List α,ys=as.map enc/\∀a∈as,Pv a
 |[],_=>⟨[],rfl,λa ha=>by cases ha⟩
 |y::ys,h=>by
  obtain⟨a,rfl,pa⟩:=h y List.mem_cons_self;obtain⟨as,rfl,pas⟩:=zju λz hz=>h z (List.mem_cons_of_mem _ hz);exact⟨a::as,rfl,λb hb=>by rcases List.mem_cons.mp hb with rfl|hb;exact pa;exact pas b hb⟩
theorem yr{α:Type}(x:α)(xs:List α):atI (x::xs) 0=some x:=by
 have:=k8 (xs:=x::xs) (j:=0) (v:=x) rfl;simpa using this
theorem y7{α:Type}(x y:α)(xs:List α):atI (x::y::xs) 1=some y:=by
 have:=k8 (xs:=x::y::xs) (j:=1) (v:=y) rfl;simpa using this
theorem jc{α:Type}(x y z:α)(xs:List α):atI (x::y::z::xs) 2=some z:=by
 have:=k8 (xs:=x::y::z::xs) (j:=2) (v:=z) rfl;simpa using this
theorem zd7{α:Type}(x y z w:α)(xs:List α):atI (x::y::z::w::xs) 3=some w:=by
 have:=k8 (xs:=x::y::z::w::xs) (j:=3) (v:=w) rfl;simpa using this
theorem zre{xs:List D}{k:Int}{Q:D->Prop}(h0:0<=k)(h1:k<xs.length)(h:∀x∈xs,Q x):∃d,atI xs k=some d/\Q d:=by
 obtain⟨v,e,m⟩:=zml h0 h1;exact⟨v,e,h v m⟩
theorem qm{ns:List Int}{k lo hi:Int}{Q:D->Prop}(h0:0<=k)(h1:k<ns.length)(hb:∀n∈ns,lo<=n/\n<=hi)(h:∀n:Int,lo<=n->n<=hi->Q (.int n)):∃d,atI (ns.map PyData.int) k=some d/\Q d :=
 zre h0 (by simpa using h1) λx hx=>by
  obtain⟨n,hn,rfl⟩:=List.mem_map.mp hx;exact h n (hb n hn).1 (hb n hn).2
theorem zif{α:Type}(enc:α->D)(xs:List α)(lo hi:Option Int):∃ys:List α,y0 (xs.map enc) lo hi=ys.map enc/\(∀y∈ys,y∈xs)/\ys.length<=xs.length:=by
 refine⟨(xs.drop (HT.sIx xs.length 0 lo)).take (HT.sIx xs.length xs.length hi-HT.sIx xs.length 0 lo),?_,λy hy=>List.mem_of_mem_drop (List.mem_of_mem_take hy),?_⟩
 ·unfold y0;rw[List.length_map,List.map_take,List.map_drop]
 ·rw[List.length_take,List.length_drop];omega
theorem zbq(xs:List D)(n:Nat):y0 xs none (some (n:Int))=xs.take n:=by
 unfold y0;rw[HT.sIx_none,HT.sIx_nat];simp
structure Sh(d:D)(n k:Nat):Prop where
 can:d.canLay0=true
 sho:d.showable=true
 dep:d.depth<=k
 len:d.shown.length<=n
theorem Sh.mono{d:D}{n k n' k':Nat}(h:Sh d n k)(h1:n<=n')(h2:k<=k'):Sh d n' k':=⟨h.can,h.sho,Nat.le_trans h.dep h2,Nat.le_trans h.len h1⟩
theorem Sh.none:Sh .none 4 0:=⟨rfl,rfl,Nat.le_refl _,Nat.le_of_ble_eq_true rfl⟩
theorem Sh.bool{b:Bool}:Sh (.bool b) 5 0:=⟨rfl,rfl,Nat.le_refl _,by cases b <;> exact Nat.le_of_ble_eq_true rfl⟩
theorem ztp{i:Int}(h:i.natAbs<10 ^ 40):i.natAbs.log2<1920:=by
 by_cases h0:i.natAbs=0
 ·rw[h0];decide
 ·exact(Nat.log2_lt h0).mpr (Nat.lt_of_lt_of_le h (Nat.le_trans (by decide:10 ^ 40<=2 ^ 200) (Nat.pow_le_pow_right (by decide) (by decide))))
theorem Sh.int{i:Int}(h:i.natAbs<10 ^ 40):Sh (.int i) 41 0 :=
 ⟨rfl,by simp only[PyData.showable];exact decide_eq_true (ztp h),Nat.le_refl _,by
  have:=int_text_length_le10 (a:=i) (k:=40) (by decide) h;simp only[PyData.shown];show(Str.ofString (toString i)).length<=41;rw[PySem.ofString_length];exact this⟩
theorem za2:∀{xs:List D}{n k:Nat},(∀x∈xs,Sh x n k)->PyData.canLayAll0 xs=true
 |[],_,_,_=>rfl
 |x::xs,n,k,h=>by simp only[PyData.canLayAll0,(h x List.mem_cons_self).can,za2 λy hy=>h y (List.mem_cons_of_mem _ hy),Bool.and_self]
theorem za3:∀{xs:List D}{n k:Nat},(∀x∈xs,Sh x n k)->PyData.showableAll xs=true
 |[],_,_,_=>rfl
 |x::xs,n,k,h=>by simp only[PyData.showableAll,(h x List.mem_cons_self).sho,za3 λy hy=>h y (List.mem_cons_of_mem _ hy),Bool.and_self]
theorem za4:∀{xs:List D}{n k:Nat},(∀x∈xs,Sh x n k)->PyData.depthAll xs<=k
 |[],_,_,_=>Nat.zero_le _
 |x::xs,n,k,h=>by
  simp only[PyData.depthAll];exact Nat.max_le.mpr ⟨(h x List.mem_cons_self).dep,za4 λy hy=>h y (List.mem_cons_of_mem _ hy)⟩
theorem za5:∀{xs:List D}{n k:Nat},(∀x∈xs,Sh x n k)->((PyData.shownAll xs).map (·.length)).sum<=xs.length * n
 |[],_,_,_=>by simp[PyData.shownAll]
 |x::xs,n,k,h=>by
  simp only[PyData.shownAll,List.map_cons,List.sum_cons,List.length_cons];have h1:=(h x List.mem_cons_self).len;have h2:=za5 λy hy=>h y (List.mem_cons_of_mem _ hy);rw[Nat.succ_mul];omega
theorem x9:∀xs:List D,(PyData.shownAll xs).length=xs.length
 |[]=>rfl
 |x::xs=>by simp only[PyData.shownAll,List.length_cons,x9 xs]
theorem Sh.lst{xs:List D}{n k m:Nat}(h:∀x∈xs,Sh x n k)(hl:xs.length<=m):Sh (.list xs) (m *(n+2)+3) (k+1) where
 can:=by simpa[PyData.canLay0]using za2 h
 sho:=by simpa[PyData.showable]using za3 h
 dep:=by simp only[PyData.depth];have:=za4 h;omega
 len:=by
  simp only[PyData.shown];have h1:=listText_len_le (PyData.shownAll xs);have h2:=za5 h;rw[x9]at h1;have h3:xs.length *(n+2)<=m *(n+2):=Nat.mul_le_mul_right _ hl;rw[Nat.mul_add]at h3;omega
theorem Sh.tup{xs:List D}{n k m:Nat}(h:∀x∈xs,Sh x n k)(hl:xs.length<=m):Sh (.tuple xs) (m *(n+2)+3) (k+1) where
 can:=by simpa[PyData.canLay0]using za2 h
 sho:=by simpa[PyData.showable]using za3 h
 dep:=by simp only[PyData.depth];have:=za4 h;omega
 len:=by
  simp only[PyData.shown];have h1:=tupleText_len_le (PyData.shownAll xs);have h2:=za5 h;rw[x9]at h1;have h3:xs.length *(n+2)<=m *(n+2):=Nat.mul_le_mul_right _ hl;rw[Nat.mul_add]at h3;omega
theorem Lay.int(i:Int):Lay (.int i):=rfl
theorem Lay.none:Lay .none:=rfl
theorem Lay.bool(b:Bool):Lay (.bool b):=rfl
theorem zcn{d:D}(h:Lay d):PyData.eqv d d=true:=SeqAt.eqv_refl d h.can
theorem znq(ns:List Int):Lay (.list (ns.map PyData.int)):=by
 have h:∀ns:List Int,PyData.canLayAll0 (ns.map PyData.int)=true/\PyData.depthAll (ns.map PyData.int)=0:=λns=>by
  induction ns with
  |nil=>exact⟨rfl,rfl⟩
  |cons n ns ih=>simp[PyData.canLayAll0,PyData.depthAll,PyData.canLay0,PyData.depth,ih.1,ih.2]
 unfold Lay SeqAt.shaped;simp[PyData.canLay0,PyData.depth,(h ns).1,(h ns).2]
theorem yn{m:Int}{Q:Ret->Prop}(h1:0<m)(h2:m<10000000000000000000000000000000000000000000000000000000000000)(q:∀v:Int,0<=v->v<m->Q (.val (.int v))):yx [.pen,.val (.int m)] Q:=⟨m,rfl,h1,h2,q⟩
section
variable {X:Cx}
end
section
variable {X:Cx}
end
end L2
set_option maxHeartbeats 4000000
namespace PySem
theorem zxg{a b:Nat}(h:a<b):¬ (b+1=a):=by omega
theorem zxh{a b:Nat}(h:a<b):¬ (a=b):=by omega
theorem zxi{a b:Nat}(h:a<b):¬ (a=b+1):=by omega
theorem zxj{b:Nat}:¬ (b+1=b):=by omega
section
variable {prog:Program}{w:World}{A:Around}{R:Result->Shared->Prop}{I:Addr}{fp wr:List Addr}{n:Nat}{P:Nat->Value->Prop}{St:Nat->Heap->Prop}
end
section
variable {prog:Program}{w:World}{A:Around}{E:Value->Shared->Prop}{s:Shared}{l:Addr}{its:Array Value}{d:Value}
end
section
variable {prog:Program}{w:World}{A:Around}{R:Result->Shared->Prop}{I:Addr}{fp wr:List Addr}{n:Nat}{P:Nat->Value->Prop}{St:Nat->Heap->Prop}
theorem zpt(kwd:List (Str×Value))(Wk:Walks prog w A.in1 I fp wr n P St)(bt:Nat->Nat->Bool)(cm:CmpOf prog w A.in1 .Lt P bt)(S:Addr)(nS:S∉fp):
  ∀(k j:Nat) (s:Shared) (vb:Value) (c:Nat),n-(j+1)=k->j+1<=n->St (j+1) s.heap->P (argBest bt j) vb ->
  s.heap.get? S=some { cls:=.type "list",dict:=none,data:=.seq #[vb,vb] c,slots:=#[] } ->
  (∀v h' tk,P (argBest bt (n-1)) v->(∀b o,b∉wr->b≠S->s.heap.get? b=some o->h'.get? b=some o)->R (.ok (.ret v)) { s with heap:=h',toks:=tk }) ->
  codeAny (model prog w) A (.builtin "min.loop" ⟨[.ref I,.none,.ref S],kwd⟩) R s:=by
 have nW:S∉wr:=λz=>nS (Wk.sub _ z);have nm:(toString "min" ++ toString ".loop" : String) = "min.loop" := by decide
 intro k
 induction k with
 |zero=>
  intro j s vb c e1 e2 st pb gS fin;have eN:j+1=n:=by omega
  refine codeAny_builtin F.entry_min_loop ?_;rw[Around.under_plainId F.plain_min_loop _];show wpAny _ A.in1 (seqItems? (.ref S) >>= _) _ _ s;refine wpAny_bind (wpAny_seqItems gS rfl ?_);show wpAny _ A.in1 (tryCatch (pyNext (.ref I)) _ >>= _) _ _ s;refine wpAny_bind (wpAny_tryCatch (Wk.done s _ _ (eN ▸ st) λh' tk kp=>?_));have gS':=kp S _ nW gS;show wpAny _ A.in1 (updateSeq S (λ_=>#[]) >>= _) _ _ _;refine wpAny_bind ?_;refine wpAny_updateSeq gS' rfl (wpAny_bind (wpAny_letGo (wpAny_pure ?_)));exact fin vb _ tk (by rw[<-eN];exact pb) λb o n1 n2 e=>(Heap.get?_update_other _ _ (Ne.symm n2)).trans (kp b o n1 e)
 |succ k ih=>
  intro j s vb c e1 e2 st pb gS fin;have lt:j+1<n:=by omega
  refine codeAny_builtin F.entry_min_loop ?_;rw[Around.under_plainId F.plain_min_loop _];show wpAny _ A.in1 (seqItems? (.ref S) >>= _) _ _ s;refine wpAny_bind (wpAny_seqItems gS rfl ?_);show wpAny _ A.in1 (tryCatch (pyNext (.ref I)) _ >>= _) _ _ s;refine wpAny_bind (wpAny_tryCatch (Wk.item (j+1) s _ _ lt st λv h' tk pv st' kp=>?_));have gS':=kp S _ nW gS;show wpAny _ A.in1 (tryCatch (holding [v,v] (richCompare .Lt v vb >>= _)) _ >>= _) _ _ _;refine wpAny_bind (wpAny_tryCatch (wpAny_holding (wpAny_bind (cm (j+1) (argBest bt j) v vb _ _ _ pv pb ?_))));refine wpAny_bind (wpAny_holding (wpAny_truthy_bool ?_));refine wpAny_bind (wpAny_letGo (wpAny_pure ?_))
  cases cb:bt (j+1) (argBest bt j) with
  |true=>
   simp only[if_true];refine wpAny_bind ?_;refine wpAny_updateSeq gS' rfl (wpAny_bind (wpAny_letGo ?_));rw[nm];refine wpAny_pure ⟨plainId_quiet F.plain_min_loop _,ih (j+1) _ v _ (by omega) lt (Wk.frame _ _ _ st' λb zf o e=>?_) (by simp only[argBest,cb,if_true];exact pv) (Heap.get?_update_self _ gS' rfl) λv2 h2 tk2 p2 kp2=>?_⟩
   ·exact(Heap.get?_update_other _ _ (λz:S=b=>nS (by rw[z];exact zf))).trans e
   ·exact fin v2 h2 tk2 p2 λb o n1 n2 e=>kp2 b o n1 n2 ((Heap.get?_update_other _ _ (Ne.symm n2)).trans (kp b o n1 e))
  |false=>
   simp only[Bool.false_eq_true,if_false];refine wpAny_bind (wpAny_letGo ?_);rw[nm];refine wpAny_pure ⟨plainId_quiet F.plain_min_loop _,ih (j+1) _ vb c (by omega) lt st' (by simp only[argBest,cb,Bool.false_eq_true,if_false];exact pb) gS' λv2 h2 tk2 p2 kp2=>?_⟩;exact fin v2 h2 tk2 p2 λb o n1 n2 e=>kp2 b o n1 n2 (kp b o n1 e)
end
section
variable {prog:Program}{w:World}{A:Around}{E:Value->Shared->Prop}{s:Shared}{l:Addr}{its:Array Value}{d:Value}
theorem zdk(a d:Value):argsOk "min" ⟨[a],[(Str.ofString "default",d)]⟩:=by unfold argsOk;kernel_rfl
theorem znr{Q:Value->Shared->Prop}{bt:Nat->Nat->Bool}(hh:A.handled=none)(hl:s.heap.IsList l its)(cm:CmpOf prog w A.in1 .Lt (λi v=>its[i]?=some v) bt)
  (h0:its.size=0->∀h' tk,(∀b o,s.heap.get? b=some o->h'.get? b=some o)->Q d { s with heap:=h',toks:=tk })
  (h1:0<its.size->∀v h' tk,its[argBest bt (its.size-1)]?=some v->(∀b o,s.heap.get? b=some o->h'.get? b=some o)->Q v { s with heap:=h',toks:=tk }) :
  wpAny (model prog w) A (call (.builtin "min") [.ref l] [(Str.ofString "default",d)]) Q E s:=by
 have nm:(toString "min" ++ toString ".loop" : String) = "min.loop" := by decide
 have zl:l<s.heap.objs.size:=by obtain⟨_,e,_⟩:=hl;exact Heap.lt_size e
 refine PyProof.Rows.kmk_tree F.kind_min F.plain_min F.entry_min (zdk _ _) ?_;show wpAny _ A.in1 (Builtin.Builtins.bindParams "min" ["key", "default"] 0 ⟨[],[(Str.ofString "default",d)]⟩ >>= _) _ _ s;refine wpAny_bind (wpAny_of_eq (show Builtin.Builtins.bindParams "min" ["key", "default"] 0 ⟨[],[(Str.ofString "default",d)]⟩=pure [none,some d] from rfl) ?_);refine wpAny_bind (wpAny_pure ?_);refine wpAny_bind (wpAny_pyIter_list hl ?_);refine wpAny_bind (wpAny_newObj_type ?_);rw[nm];have Wk:=Walks.list (prog:=prog) (w:=w) (A:=A.in1) hh s.heap.objs.size l (Nat.ne_of_lt zl) its;have eS:(s.heap.push { cls:=.type "list_iterator",data:=.fields #[.ref l,.int 0 0] }).objs.size=s.heap.objs.size+1:=Heap.size_push ..;have nS:(s.heap.push { cls:=.type "list_iterator",data:=.fields #[.ref l,.int 0 0] }).objs.size ∉ [s.heap.objs.size,l]:=by
  rw[eS];intro z;rcases List.mem_cons.mp z with z|z
  ·exact zxj z
  ·exact zxg zl (List.mem_singleton.mp z)
 have nW:(s.heap.push { cls:=.type "list_iterator",data:=.fields #[.ref l,.int 0 0] }).objs.size ∉ [s.heap.objs.size]:=λz=>nS (Wk.sub _ z);have up:∀{h':Heap},(∀b o,b ∉ [s.heap.objs.size]->b≠(s.heap.push { cls:=.type "list_iterator",data:=.fields #[.ref l,.int 0 0] }).objs.size->((s.heap.push { cls:=.type "list_iterator",data:=.fields #[.ref l,.int 0 0] }).push { cls:=.type "list",data:=.seq #[] }).get? b=some o->h'.get? b=some o)->∀b o,s.heap.get? b=some o->h'.get? b=some o:=λ{h'} z b o e=>by
  have lt:=Heap.lt_size e;exact z b o (λq=>zxh lt (List.mem_singleton.mp q)) (by rw[eS];exact zxi lt) (Heap.get?_push_of_some _ (Heap.get?_push_of_some _ e))
 have st0:((s.heap.push { cls:=.type "list_iterator",data:=.fields #[.ref l,.int 0 0] }).push { cls:=.type "list",data:=.seq #[] }).IsListIter s.heap.objs.size l 0/\((s.heap.push { cls:=.type "list_iterator",data:=.fields #[.ref l,.int 0 0] }).push { cls:=.type "list",data:=.seq #[] }).IsList l its :=
  ⟨⟨_,Heap.get?_push_of_some _ (Heap.get?_push_size _ rfl),rfl,rfl⟩,(hl.push _).push _⟩
 have gS:((s.heap.push { cls:=.type "list_iterator",data:=.fields #[.ref l,.int 0 0] }).push { cls:=.type "list",data:=.seq #[] }).get? (s.heap.push { cls:=.type "list_iterator",data:=.fields #[.ref l,.int 0 0] }).objs.size=some { cls:=.type "list",dict:=none,data:=.seq #[] 0,slots:=#[] }:=Heap.get?_push_size _ rfl;refine wpAny_pure ⟨plainId_quiet F.plain_min_loop _,?_⟩;refine codeAny_builtin F.entry_min_loop ?_;rw[Around.under_plainId F.plain_min_loop _];show wpAny _ A.in1 (seqItems? (.ref _) >>= _) _ _ _;refine wpAny_bind (wpAny_seqItems gS rfl ?_);show wpAny _ A.in1 (tryCatch (pyNext (.ref s.heap.objs.size)) _ >>= _) _ _ _
 by_cases z:its.size=0
 ·refine wpAny_bind (wpAny_tryCatch (Wk.done _ _ _ (by rw[z];exact st0) λh' tk kp=>?_));refine wpAny_bind (m:=rule _) (wpAny_rule ?_);exact wpAny_pure (h0 z h' tk (up λb o n1 n2 e=>kp b o n1 e))
 ·refine wpAny_bind (wpAny_tryCatch (Wk.item 0 _ _ _ (by omega) st0 λv h' tk pv st' kp=>?_));have gS':=kp _ _ nW gS;show wpAny _ A.in1 (updateSeq _ (λ_=>#[v,v]) >>= _) _ _ _;refine wpAny_bind ?_;refine wpAny_updateSeq gS' rfl ?_;rw[nm];refine wpAny_pure ⟨plainId_quiet F.plain_min_loop _,zpt _ Wk bt cm _ nS _ 0 _ v _ rfl (by omega) (Wk.frame _ _ _ st' λb zf o e=>?_) pv (Heap.get?_update_self _ gS' rfl) λv2 h2 tk2 p2 kp2=>?_⟩
  ·exact(Heap.get?_update_other _ _ (λy=>nS (by rw[y];exact zf))).trans e
  ·exact h1 (by omega) v2 h2 tk2 p2 (up λb o n1 n2 e=>kp2 b o n1 n2 ((Heap.get?_update_other _ _ (Ne.symm n2)).trans (kp b o n1 e)))
end
end PySem
namespace L2
open PySem PySem.Spec PyProof.Rows
section
variable {X:Cx}{a d e:Expr}{ta:DTF}{td te:DTE}{p pos kp:Pos}
def zns:List D->D->(D->Prop)->Prop
 |[.list xs],dd,Q=>∃ns,jr xs=some ns/\(ns = []->Q dd)/\∀m:Int,m∈ns->(∀a∈ns,m<=a)->Q (.int m)
 |_,_,_=>False
def zjv(g:List D->D->(D->Prop)->Prop)(ta:DTF)(td:DTE):DTE:=λσ Q=>ta σ λds=>td σ λdd=>g ds dd Q
theorem znt{id:String}{x:Str}(hg:Gl X x)(hm:X.mg x=none)(hv:bootBuiltins x=some (.builtin id))(ha:DAv X [a] ta)(hd:DE X d td){g:List D->D->(D->Prop)->Prop}
  (hr:∀pins s σ H vs us ds v u dd Q,Inv X pins σ H s->Vals vs us->RepTs X.K H ds vs->RelV v u->Rep X.K H dd v->g ds dd Q->wpAny (model X.prog X.w) X.A (call (.builtin id) us [(Str.ofString "default",u)]) (DEnd X pins σ H Q) X.xe s)
  (hn:x ≠ "__name__" := by decide) (hdb:(x ==("__debug__" : Str))=false:=by decide) (he:starEach [a] X.env=(false,eval a X.env)::starEach [] X.env:=by rfl) :
  DE X (.Call (.Name x p) [a] [⟨some (Str.ofString "default"),d,kp⟩] pos) (zjv g ta td):=⟨λpins s σ H H₀ σD Q I ok q=>by
 refine wpAny_Call_Name_kw (wk I hg hm hv ?_ hn hdb);refine callWith_kw (thn (ha.run pos pins s σ H H₀ σD _ I ok q) λus s1 ⟨vs,H1,ds,I1,r1,sm1,rp1,q1⟩=>?_) (by rw[he];rfl) (by rw[he];rfl);refine wpAny_evalAll_cons (wpAny_bind (thn (hd.run pins s1 σ H1 H₀ σD _ I1 (ok.after sm1) q1) λu s2 ⟨v,H2,dd,I2,r2,sm2,rp2,q2⟩=>wpAny_bind (wpAny_standAt (wpAny_pure (wpAny_evalAll_nil ?_)))));exact thn (hr pins s2 σ H2 vs us ds v u dd Q I2 r1 (rp1.same sm2) r2 rp2 q2) λz s3 h=>h.back (sm1.trans sm2)⟩
theorem zig{its:List Value}{ns:List Int}(hi:IntsAre its ns):∃xs,its.toArray=intItems xs/\ns=xs.toList.map (·.1):=by
 obtain⟨xs,e⟩:=hi.allInts.items;exact⟨xs,e,by rw[<-hi.numsOf,<-nums_intItems,<-e]⟩
theorem zpu(hc:X.calm=true)(hg:Gl X "min")(hm:X.mg "min" = none)(ha:DAv X [a] ta)(hd:DE X d td)(he:starEach [a] X.env=(false,eval a X.env)::starEach [] X.env:=by rfl):
  DE X (.Call (.Name "min" p) [a] [⟨some (Str.ofString "default"),d,kp⟩] pos) (zjv zns ta td) :=
 znt hg hm boot_min ha hd (λpins s σ H vs us ds v u dd Q I rv rd ru rp q=>by
  match ds,q,rd with
  |[.list xs],q,rd=>
   obtain⟨v',rfl,r⟩:=rd.one;obtain⟨l,vs,rfl,hq,r⟩:=r.list.sq;obtain⟨ns,e,q0,q1⟩:=q
   cases zaz r e;obtain⟨u',rfl,r1⟩:=rv.one
   cases r1;obtain⟨its,rvs,pl,hz⟩:=I.list hq;obtain⟨xs',e',hns⟩:=zig (xk rvs);have hl:s.heap.IsList l (intItems xs'):=by rw[<-e'];exact pl.isList
   have sz:(intItems xs').size=xs'.size:=by simp[intItems]
   refine znr (I.ok.hd hc) hl (CmpOf.ints_lt (numAt xs') (λ_ _=>intItems_at)) (λz h' tk hk=>?_) (λz w h' tk hw hk=>?_)
   ·refine⟨v,H,dd,I.kept hk,ru,Same.refl _,rp,q0 ?_⟩;rw[hns,List.map_eq_nil_iff];exact List.eq_nil_of_length_eq_zero (by rw[Array.length_toList];omega)
   ·obtain⟨t,rfl⟩:=intItems_at hw;rw[sz]at *;obtain⟨h1,h2⟩:=argBest_lt (numAt xs') (xs'.size-1);refine⟨.int _,H,_,I.kept hk,⟨t,rfl⟩,Same.refl _,.int,q1 _ ?_ λy hy=>?_⟩
    ·rw[hns,numAt_eq];exact getD_mem (by rw[List.length_map,Array.length_toList];omega)
    ·rw[hns]at hy;obtain⟨j,hj,rfl⟩:=mem_getD hy;rw[List.length_map,Array.length_toList]at hj;rw[<-numAt_eq];exact h2 j (by omega)) (by decide) (by decide) he
end
theorem atI_end{α:Type}(xs:List α)(x:α):atI (xs ++ [x]) (-1)=some x:=zf6 xs x
theorem sliceD_take0(xs:List D){n:Int}(h:0<=n):y0 xs none (some n)=xs.take n.toNat:=by
 have:=zbq xs n.toNat;rw[Int.toNat_of_nonneg h]at this;exact this
theorem zbr(xs:List D){n:Int}(h:0<=n):y0 xs (some n) none=xs.drop n.toNat:=by
 obtain⟨k,rfl⟩:∃k:Nat,n=k:=⟨n.toNat,by omega⟩
 unfold y0;rw[HT.sIx_none,HT.sIx_nat,Int.toNat_natCast]
 by_cases c:k<=xs.length
 ·rw[Nat.min_eq_left c,List.take_of_length_le (by rw[List.length_drop];omega)]
 ·rw[Nat.min_eq_right (by omega),List.drop_eq_nil_of_le (by omega:xs.length<=k),List.drop_eq_nil_of_le (Nat.le_refl _),List.take_nil]
theorem zgj(xs:List D){m n:Int}(h0:0<=m)(h1:0<=n):y0 xs (some m) (some n)=(xs.drop m.toNat).take (n.toNat-m.toNat):=by
 obtain⟨k,rfl⟩:∃k:Nat,m=k:=⟨m.toNat,by omega⟩
 obtain⟨j,rfl⟩:∃k:Nat,n=k:=⟨n.toNat,by omega⟩
 unfold y0;rw[HT.sIx_nat,HT.sIx_nat,Int.toNat_natCast,Int.toNat_natCast]
 by_cases c:k<=xs.length
 ·rw[Nat.min_eq_left c]
  by_cases c2:j<=xs.length
  ·rw[Nat.min_eq_left c2]
  ·rw[Nat.min_eq_right (by omega),List.take_of_length_le (by rw[List.length_drop];omega),List.take_of_length_le (by rw[List.length_drop];omega)]
 ·rw[Nat.min_eq_right (by omega:xs.length<=k),List.drop_eq_nil_of_le (by omega:xs.length<=k),List.drop_eq_nil_of_le (Nat.le_refl _),List.take_nil,List.take_nil]
theorem jd(ns:List Int):Lay (.tuple (ns.map PyData.int)):=by
 have:=znq ns;unfold Lay SeqAt.shaped at this ⊢;simpa[PyData.canLay0,PyData.depth]using this
theorem Lay.list{xs:List D}(h:∀x∈xs,Lay x/\x.depth<=63):Lay (.list xs):=by
 unfold Lay SeqAt.shaped;rw[Bool.and_eq_true];have h1:PyData.canLayAll0 xs=true:=by
  induction xs with
  |nil=>rfl
  |cons x xs ih=>
   simp only[PyData.canLayAll0,Bool.and_eq_true];exact⟨(h x List.mem_cons_self).1.can,ih λy hy=>h y (List.mem_cons_of_mem _ hy)⟩
 have h2:PyData.depthAll xs<=63:=by
  clear h1
  induction xs with
  |nil=>simp[PyData.depthAll]
  |cons x xs ih=>
   simp only[PyData.depthAll];have:=(h x List.mem_cons_self).2;have:=ih λy hy=>h y (List.mem_cons_of_mem _ hy);omega
 refine⟨by simpa[PyData.canLay0]using h1,decide_eq_true ?_⟩;simp only[PyData.depth];omega
theorem Lay.tuple{xs:List D}(h:∀x∈xs,Lay x/\x.depth<=63):Lay (.tuple xs):=by
 have:=Lay.list h;unfold Lay SeqAt.shaped at this ⊢;simpa[PyData.canLay0,PyData.depth]using this
section
variable {X:Cx}{e:Expr}{p pos:Pos}
end
end L2
namespace SQ
open PySem PyProof.Rows
set_option autoImplicit false
section
variable (prog:Program)(w:World)(A:Around)(s:Shared)(κ:KeyKind)(kd:SortKind)
def za6:Prop:=∀(E:Value->Shared->Prop) (x y:Value) (a b:κ.α) (Q:Bool->Shared->Prop),κ.keyOf x=some a->κ.keyOf y=some b->Q (κ.blt a b) s->wpAny (model prog w) A (keyLt' kd x y) Q E s
end
structure SG(kd:SortKind)(a₀:Array Keyed)(st:SortSt):Prop where
 perm:(arrOf st).Perm a₀
 kind:kindOf st=kd
 fail:failedOf st=none
theorem SG.sz{kd:SortKind}{a₀:Array Keyed}{st:SortSt}(g:SG kd a₀ st):(arrOf st).size=a₀.size:=g.perm.size_eq
theorem SG.arr{kd:SortKind}{a₀:Array Keyed}{st:SortSt}(g:SG kd a₀ st){xs:Array Keyed}(p:xs.Perm (arrOf st)):SG kd a₀ (setArr st xs):=⟨p.trans g.perm,g.kind,g.fail⟩
structure Mv(lo hi:Nat)(st st':SortSt):Prop where
 out:∀k,(k<lo\/hi<=k)->(arrOf st')[k]?=(arrOf st)[k]?
 pend:pendingOf st'=pendingOf st
theorem Mv.refl(lo hi:Nat)(st:SortSt):Mv lo hi st st:=⟨λ_ _=>rfl,rfl⟩
theorem Mv.trans{lo hi:Nat}{a b c:SortSt}(h1:Mv lo hi a b)(h2:Mv lo hi b c):Mv lo hi a c:=⟨λk hk=>(h2.out k hk).trans (h1.out k hk),h2.pend.trans h1.pend⟩
theorem Mv.mono{lo hi lo' hi':Nat}{a b:SortSt}(h:Mv lo hi a b)(h1:lo'<=lo)(h2:hi<=hi'):Mv lo' hi' a b:=⟨λk hk=>h.out k (by omega),h.pend⟩
abbrev Up(κ:KeyKind)(xs:Array Keyed)(lo n:Nat):Prop:=∀i j,lo<=i->i<=j->j<lo+n->κ.kle (KK κ xs i) (KK κ xs j)
abbrev Dn(κ:KeyKind)(xs:Array Keyed)(lo n:Nat):Prop:=∀i j,lo<=i->i<=j->j<lo+n->κ.kle (KK κ xs j) (KK κ xs i)
theorem je{st:SortSt}{i j lo hi:Nat}(hj:j<=(arrOf st).size)(h1:lo<=i)(h2:j<=hi):Mv lo hi st (setArr st (mirror (arrOf st) i j ((j-i) / 2))) :=
 ⟨λk hk=>by
  show(mirror (arrOf st) i j ((j-i) / 2))[k]?=_;rw[getElem?_mirror_all hj,if_neg (by omega)],rfl⟩
section
variable {prog:Program}{w:World}{A:Around}{E:Value->Shared->Prop}{s:Shared}{κ:KeyKind}{kd:SortKind}{a₀:Array Keyed}
theorem SG.key{st:SortSt}(g:SG kd a₀ st)(h0:KeysOf κ a₀){i:Nat}(hi:i<a₀.size):∃x p,(arrOf st)[i]?=some (x,p)/\κ.keyOf x=some (KK κ (arrOf st) i):=by
 have l:i<(arrOf st).size:=by rw[g.sz];exact hi
 obtain⟨a,ha⟩:=h0 ((arrOf st)[i]) ((Array.perm_iff_toList_perm.mp g.perm).mem_iff.mp (by simp));have e:(arrOf st)[i]?=some (arrOf st)[i]:=getElem?_pos _ i l;refine⟨(arrOf st)[i].1,(arrOf st)[i].2,e,?_⟩;rw[ha];unfold KK;rw[e];simp[ha]
theorem zxk{st:SortSt}{x y:Keyed}{a b:κ.α}{Q:Option Bool->SortSt->Prop}(L:za6 prog w A s κ kd)(hk:kindOf st=kd)(ha:κ.keyOf x.1=some a)(hb:κ.keyOf y.1=some b)(q:Q (some (κ.blt a b)) st):
  wpS (model prog w) A E s (lt' x y) Q st:=by
 rw[lt'_eq];refine wpS_bind (wpS_get ?_);rw[hk];exact wpS_bind (wpS_lift (wpAny_attempt (L _ x.1 y.1 a b _ ha hb ⟨rfl,wpS_pure q⟩)))
theorem znu{st:SortSt}{xs:Array Keyed}{i:Nat}{p:Keyed}{Q:Keyed->SortSt->Prop}(e:xs[i]?=some p)(q:Q p st):wpS (model prog w) A E s (elem' xs i) Q st:=by
 rw[elem'_eq,e];exact wpS_pure q
theorem zco{st:SortSt}{i j:Nat}{Q:Option Bool->SortSt->Prop}(L:za6 prog w A s κ kd)(g:SG kd a₀ st)(h0:KeysOf κ a₀)(hi:i<a₀.size)(hj:j<a₀.size)
  (q:Q (some (κ.blt (KK κ (arrOf st) i) (KK κ (arrOf st) j))) st):wpS (model prog w) A E s (ltAt' i j) Q st:=by
 obtain⟨x,p,e1,k1⟩:=g.key h0 hi;obtain⟨y,r,e2,k2⟩:=g.key h0 hj;rw[ltAt'_eq];refine wpS_bind (wpS_get ?_);exact wpS_bind (znu e1 (wpS_bind (znu e2 (zxk L g.kind k1 k2 q))))
theorem zjw{st:SortSt}{i j:Nat}{Q:Unit->SortSt->Prop}(q:Q () (setArr st (mirror (arrOf st) i j ((j-i) / 2)))):wpS (model prog w) A E s (reverseSlice' i j) Q st:=by
 rw[reverseSlice'_eq];exact wpS_modify q
def zcp(lo a m:Nat):StateT SortSt Sem (Option (Option Nat)×Nat) :=
 forIn [a:m] ((none,a):Option (Option Nat)×Nat) λ_ c=>do
  let o <-ltAt' (lo+c.snd) (lo+c.snd-1)
  match o with
  |some less=>if less=true then pure (ForInStep.done (none,c.snd)) else pure (ForInStep.yield (none,c.snd+1))
  |_=>pure (ForInStep.done (some none,c.snd))
def zcq(lo n m:Nat):StateT SortSt Sem (Option Nat):=do
 reverseSlice' lo (lo+n)
 let c <-zcp lo n m
 match c.fst with
 |some r=>pure r
 |none=>pure (some c.snd)
def zfc(lo n m:Nat):StateT SortSt Sem (Option (Option Nat)×Nat×Nat) :=
 forIn [n:m] ((none,n,0):Option (Option Nat)×Nat×Nat) λ_ c=>do
  let o <-ltAt' (lo+c.snd.fst) (lo+c.snd.fst-1)
  match o with
  |some less=>
   if less=true then
    if c.snd.snd > 0 then do
     reverseSlice' (lo+c.snd.fst-(c.snd.snd+1)) (lo+c.snd.fst)
     pure (ForInStep.yield (none,c.snd.fst+1,0))
    else pure (ForInStep.yield (none,c.snd.fst+1,0))
   else do
    let o <-ltAt' (lo+c.snd.fst-1) (lo+c.snd.fst)
    match o with
    |some more=>
     if more=true then pure (ForInStep.done (none,c.snd.fst,c.snd.snd))
     else pure (ForInStep.yield (none,c.snd.fst+1,c.snd.snd+1))
    |_=>pure (ForInStep.done (some none,c.snd.fst,c.snd.snd))
  |_=>pure (ForInStep.done (some none,c.snd.fst,c.snd.snd))
def zgk(lo n m:Nat):StateT SortSt Sem (Option Nat):=do
 liftM (rule "list.sort.descending-run")
 let c <-zfc lo (n+1) m
 match c.fst with
 |some r=>pure r
 |none=>
  if c.snd.snd > 0 then do
   reverseSlice' (lo+c.snd.fst-(c.snd.snd+1)) (lo+c.snd.fst)
   zcq lo c.snd.fst m
  else zcq lo c.snd.fst m
theorem zby(lo m:Nat):countRun' lo m=(do
  let c <-zcp lo 1 m
  match c.fst with
  |some r=>pure r
  |none=>
   if (c.snd == m)=true then pure (some c.snd)
   else if c.snd > 1 then do
    let o <-ltAt' lo (lo+c.snd-1)
    match o with
    |some rose=>if rose=true then pure (some c.snd) else do
      reverseSlice' lo (lo+c.snd)
      zgk lo c.snd m
    |_=>pure none
   else zgk lo c.snd m):=by
 rw[countRun'_eq];unfold zgk zcq zfc zcp;dsimp only;congr 1
 funext c
 obtain⟨r,n⟩:=c
 cases r with
 |some r=>rfl
 |none=>
  dsimp only
  split
  ·rfl
  ·split
   ·congr 1
    funext x
    cases x with
    |none=>rfl
    |some rose=>
     dsimp only
     split
     ·rfl
     ·congr 1
      funext _
      congr 1;funext _;congr 1;congr 1;funext c2;obtain⟨r2,n2,q2⟩:=c2;cases r2 with
      |some r2=>rfl
      |none=>
       dsimp only
       split
       ·congr 1;funext _;congr 1;funext _;congr 1;funext c3;obtain⟨r3,n3⟩:=c3;cases r3 <;> rfl
       ·congr 1;funext _;congr 1;funext c3;obtain⟨r3,n3⟩:=c3;cases r3 <;> rfl
   ·congr 1;funext _;congr 1;congr 1;funext c2;obtain⟨r2,n2,q2⟩:=c2;cases r2 with
    |some r2=>rfl
    |none=>
     dsimp only
     split
     ·congr 1;funext _;congr 1;funext _;congr 1;funext c3;obtain⟨r3,n3⟩:=c3;cases r3 <;> rfl
     ·congr 1;funext _;congr 1;funext c3;obtain⟨r3,n3⟩:=c3;cases r3 <;> rfl
end
end SQ
namespace SQ
open PySem PyProof.Rows
set_option autoImplicit false
section
variable {prog:Program}{w:World}{A:Around}{E:Value->Shared->Prop}{s:Shared}{κ:KeyKind}{kd:SortKind}{a₀:Array Keyed}
theorem Up.next{xs:Array Keyed}{lo n:Nat}(h:Up κ xs lo n)(h1:1<=n)(c:κ.blt (KK κ xs (lo+n)) (KK κ xs (lo+n-1))=false):Up κ xs lo (n+1):=λi j a b d=>by
 by_cases e:j<lo+n
 ·exact h i j a b e
 ·have ej:j=lo+n:=by omega
  subst ej
  by_cases e2:i=lo+n
  ·subst e2;exact KeyOrd.kle_refl _
  ·exact KeyOrd.kle_trans (h i (lo+n-1) a (by omega) (by omega)) c
theorem zvx{st:SortSt}{lo a m:Nat}{Q:Option (Option Nat)×Nat->SortSt->Prop}(L:za6 prog w A s κ kd)(h0:KeysOf κ a₀)(g:SG kd a₀ st)(hm:lo+m<=a₀.size)(ha:1<=a)(hu:Up κ (arrOf st) lo a)(ham:a<=m)
  (q:∀n,a<=n->n<=m->Up κ (arrOf st) lo n->(n=m\/κ.klt (KK κ (arrOf st) (lo+n)) (KK κ (arrOf st) (lo+n-1)))->Q (none,n) st):wpS (model prog w) A E s (zcp lo a m) Q st:=by
 unfold zcp;refine wpS_forRange (I:=λx c st'=>st'=st/\c=(none,x)/\Up κ (arrOf st) lo x) (λx c st' hx1 hx2 h=>?_) (λc st' h=>?_) ⟨rfl,rfl,hu⟩
 ·obtain⟨rfl,rfl,hx⟩:=h;dsimp only;refine wpS_bind (zco L g h0 (by omega) (by omega) ?_)
  cases cb:κ.blt (KK κ (arrOf st') (lo+x)) (KK κ (arrOf st') (lo+x-1)) with
  |true=>exact wpS_pure (q x hx1 (by omega) hx (.inr cb))
  |false=>exact wpS_pure ⟨rfl,rfl,hx.next (by omega) cb⟩
 ·obtain⟨rfl,rfl,hx⟩:=h;rw[show max a m=m by omega]at hx ⊢;exact q m ham (Nat.le_refl _) hx (.inl rfl)
theorem zrf{st st0:SortSt}{lo n m:Nat}{Q:Option Nat->SortSt->Prop}(L:za6 prog w A s κ kd)(h0:KeysOf κ a₀)(g:SG kd a₀ st)(hm:lo+m<=a₀.size)(h1:1<=n)(hnm:n<=m)(hd:Dn κ (arrOf st) lo n)(mv:Mv lo (lo+m) st0 st)
  (q:∀k st',SG kd a₀ st'->Mv lo (lo+m) st0 st'->1<=k->k<=m->Up κ (arrOf st') lo k->Q (some k) st'):wpS (model prog w) A E s (zcq lo n m) Q st:=by
 unfold zcq;have sz:lo+n<=(arrOf st).size:=by rw[g.sz];omega
 refine wpS_bind (zjw ?_);have g':=g.arr (mirror_perm (arrOf st) lo (lo+n) ((lo+n-lo) / 2));refine wpS_bind (zvx L h0 g' hm h1 (λi j a b c=>?_) hnm λk k1 k2 hk _=>wpS_pure (q k _ g' (mv.trans (je sz (Nat.le_refl _) (by omega))) (by omega) k2 hk));show κ.kle (KK κ (mirror (arrOf st) lo (lo+n) ((lo+n-lo) / 2)) i) (KK κ (mirror (arrOf st) lo (lo+n) ((lo+n-lo) / 2)) j);rw[KK_mirror sz,KK_mirror sz,if_pos (by omega),if_pos (by omega)];exact hd _ _ (by omega) (by omega) (by omega)
theorem Dn.next{xs:Array Keyed}{lo n:Nat}(h:Dn κ xs lo n)(h1:1<=n)(c:κ.kle (KK κ xs (lo+n)) (KK κ xs (lo+n-1))):Dn κ xs lo (n+1):=λi j a b d=>by
 by_cases e:j<lo+n
 ·exact h i j a b e
 ·have ej:j=lo+n:=by omega
  subst ej
  by_cases e2:i=lo+n
  ·subst e2;exact KeyOrd.kle_refl _
  ·exact KeyOrd.kle_trans c (h i (lo+n-1) a (by omega) (by omega))
theorem zfd{xs:Array Keyed}{i j:Nat}(hj:j<=xs.size)(he:∀k,i<=k->k<j->KK κ xs k=KK κ xs (j-1))(k:Nat):KK κ (mirror xs i j ((j-i) / 2)) k=KK κ xs k:=KK_mirror_equal hj he k
theorem zxl{st:SortSt}{lo n m:Nat}{Q:Option (Option Nat)×Nat×Nat->SortSt->Prop}(L:za6 prog w A s κ kd)(h0:KeysOf κ a₀)(g:SG kd a₀ st)(hm:lo+m<=a₀.size)(h1:1<=n)(hnm:n<=m)(hd:Dn κ (arrOf st) lo n)
  (q:∀k e st',SG kd a₀ st'->Mv lo (lo+m) st st'->n<=k->k<=m->Dn κ (arrOf st') lo k->e+1<=k->(∀i,lo+k-(e+1)<=i->i<lo+k->KK κ (arrOf st') i=KK κ (arrOf st') (lo+k-1))->Q (none,k,e) st'):wpS (model prog w) A E s (zfc lo n m) Q st:=by
 unfold zfc;refine wpS_forRange (I:=λx c st'=>∃e,c=(none,x,e)/\SG kd a₀ st'/\Mv lo (lo+m) st st'/\Dn κ (arrOf st') lo x/\e+1<=x/\(∀i,lo+x-(e+1)<=i->i<lo+x->KK κ (arrOf st') i=KK κ (arrOf st') (lo+x-1))) (λx c st' hx1 hx2 h=>?_) (λc st' h=>?_) ⟨0,rfl,g,Mv.refl _ _ _,hd,by omega,λi a b=>by rw[show i=lo+n-1 by omega]⟩
 ·obtain⟨e,rfl,g',mv,hx,he,heq⟩:=h;dsimp only;refine wpS_bind (zco L g' h0 (by omega) (by omega) ?_)
  cases cb:κ.blt (KK κ (arrOf st') (lo+x)) (KK κ (arrOf st') (lo+x-1)) with
  |true=>
   dsimp only;rw[if_pos rfl]
   by_cases ce:e > 0
   ·rw[if_pos ce];refine wpS_bind (zjw (wpS_pure ?_));have sz:lo+x<=(arrOf st').size:=by rw[g'.sz];omega
    have kf:=zfd (κ:=κ) (xs:=arrOf st') (i:=lo+x-(e+1)) (j:=lo+x) sz heq;refine⟨0,rfl,g'.arr (mirror_perm _ _ _ _),mv.trans (je sz (by omega) (by omega)),?_,by omega,λi a b=>by rw[show i=lo+(x+1)-1 by omega]⟩;refine Dn.next (λi j a b d=>?_) (by omega) ?_
    ·show κ.kle (KK κ (mirror _ _ _ _) j) (KK κ (mirror _ _ _ _) i);rw[kf,kf];exact hx i j a b d
    ·show κ.kle (KK κ (mirror _ _ _ _) _) (KK κ (mirror _ _ _ _) _);rw[kf,kf];exact KeyOrd.kle_of_klt cb
   ·rw[if_neg ce];exact wpS_pure ⟨0,rfl,g',mv,hx.next (by omega) (KeyOrd.kle_of_klt cb),by omega,λi a b=>by rw[show i=lo+(x+1)-1 by omega]⟩
  |false=>
   dsimp only;rw[if_neg (by decide)];refine wpS_bind (zco L g' h0 (by omega) (by omega) ?_)
   cases cc:κ.blt (KK κ (arrOf st') (lo+x-1)) (KK κ (arrOf st') (lo+x)) with
   |true=>exact wpS_pure (q x e st' g' mv hx1 (by omega) hx he heq)
   |false=>
    have same:KK κ (arrOf st') (lo+x)=KK κ (arrOf st') (lo+x-1):=KeyOrd.kle_antisymm cc cb;refine wpS_pure ⟨e+1,rfl,g',mv,hx.next (by omega) cc,by omega,λi a b=>?_⟩;rw[show lo+(x+1)-1=lo+x by omega]
    by_cases ei:i=lo+x
    ·rw[ei]
    ·rw[heq i (by omega) (by omega),same]
 ·obtain⟨e,rfl,g',mv,hx,he,heq⟩:=h;rw[show max n m=m by omega]at *;exact q m e st' g' mv hnm (Nat.le_refl _) hx he heq
theorem zjx{st st0:SortSt}{lo n m:Nat}{Q:Option Nat->SortSt->Prop}(L:za6 prog w A s κ kd)(h0:KeysOf κ a₀)(g:SG kd a₀ st)(hm:lo+m<=a₀.size)(h1:1<=n)(hnm:n+1<=m)(hd:Dn κ (arrOf st) lo (n+1))(mv:Mv lo (lo+m) st0 st)
  (q:∀k st',SG kd a₀ st'->Mv lo (lo+m) st0 st'->1<=k->k<=m->Up κ (arrOf st') lo k->Q (some k) st'):wpS (model prog w) A E s (zgk lo n m) Q st:=by
 unfold zgk;refine wpS_bind (wpS_lift (wpAny_rule ⟨rfl,?_⟩));refine wpS_bind (zxl L h0 g hm (by omega) hnm hd λk e st' g' mv' k1 k2 hk he heq=>?_);dsimp only
 by_cases ce:e > 0
 ·rw[if_pos ce];have sz:lo+k<=(arrOf st').size:=by rw[g'.sz];omega
  have kf:=zfd (κ:=κ) (xs:=arrOf st') (i:=lo+k-(e+1)) (j:=lo+k) sz heq;refine wpS_bind (zjw (zrf L h0 (g'.arr (mirror_perm _ _ _ _)) hm (by omega) k2 (λi j a b d=>?_) ((mv.trans mv').trans (je sz (by omega) (by omega))) q));show κ.kle (KK κ (mirror _ _ _ _) j) (KK κ (mirror _ _ _ _) i);rw[kf,kf];exact hk i j a b d
 ·rw[if_neg ce];exact zrf L h0 g' hm (by omega) k2 hk (mv.trans mv') q
theorem zih{st:SortSt}{lo m:Nat}{Q:Option Nat->SortSt->Prop}(L:za6 prog w A s κ kd)(h0:KeysOf κ a₀)(g:SG kd a₀ st)(hm:lo+m<=a₀.size)(h1:1<=m)
  (q:∀k st',SG kd a₀ st'->Mv lo (lo+m) st st'->1<=k->k<=m->Up κ (arrOf st') lo k->Q (some k) st'):wpS (model prog w) A E s (countRun' lo m) Q st:=by
 rw[zby];refine wpS_bind (zvx L h0 g hm (Nat.le_refl _) (λi j a b c=>by rw[show i=j by omega];exact KeyOrd.kle_refl _) h1 λn n1 n2 hn hz=>?_);dsimp only
 by_cases e:n=m
 ·rw[if_pos (by simpa using e)];exact wpS_pure (q n st g (Mv.refl _ _ _) n1 n2 hn)
 ·rw[if_neg (by simpa using e)];have down:=hz.resolve_left e
  by_cases e1:n > 1
  ·rw[if_pos e1];refine wpS_bind (zco L g h0 (by omega) (by omega) ?_)
   cases cb:κ.blt (KK κ (arrOf st) lo) (KK κ (arrOf st) (lo+n-1)) with
   |true=>exact wpS_pure (q n st g (Mv.refl _ _ _) n1 n2 hn)
   |false=>
    dsimp only;rw[if_neg (by decide)];have all:∀k,lo<=k->k<lo+n->KK κ (arrOf st) k=KK κ (arrOf st) (lo+n-1):=λk a b=>
     KeyOrd.kle_antisymm (hn k (lo+n-1) a (by omega) (by omega)) (KeyOrd.kle_trans cb (hn lo k (Nat.le_refl _) a b))
    have sz:lo+n<=(arrOf st).size:=by rw[g.sz];omega
    have kf:=zfd (κ:=κ) (xs:=arrOf st) (i:=lo) (j:=lo+n) sz all;refine wpS_bind (zjw (zjx L h0 (g.arr (mirror_perm _ _ _ _)) hm n1 (by omega) (Dn.next (λi j a b d=>?_) n1 ?_) (je sz (Nat.le_refl _) (by omega)) q))
    ·show κ.kle (KK κ (mirror _ _ _ _) j) (KK κ (mirror _ _ _ _) i);rw[kf,kf,all j (by omega) d,all i a (by omega)];exact KeyOrd.kle_refl _
    ·show κ.kle (KK κ (mirror _ _ _ _) _) (KK κ (mirror _ _ _ _) _);rw[kf,kf];exact KeyOrd.kle_of_klt down
  ·rw[if_neg e1];refine zjx L h0 g hm n1 (by omega) (Dn.next (λi j a b d=>by rw[show i=j by omega];exact KeyOrd.kle_refl _) n1 (KeyOrd.kle_of_klt down)) (Mv.refl _ _ _) q
theorem znv{st:SortSt}{lo n ok:Nat}{Q:Bool->SortSt->Prop}(L:za6 prog w A s κ kd)(h0:KeysOf κ a₀)(g:SG kd a₀ st)(hn:lo+n<=a₀.size)(hok:ok<=n)(hu:Up κ (arrOf st) lo ok)
  (q:∀st',SG kd a₀ st'->Mv lo (lo+n) st st'->Up κ (arrOf st') lo n->Q true st'):wpS (model prog w) A E s (binarySort' lo n ok) Q st:=by
 rw[binarySort'_eq];refine wpS_bind (wpS_mono (wpS_forRange (I:=λk c st'=>c=(none,())/\SG kd a₀ st'/\Mv lo (lo+n) st st'/\Up κ (arrOf st') lo (min k n))
  (Q:=λc st'=>c=(none,())/\SG kd a₀ st'/\Mv lo (lo+n) st st'/\Up κ (arrOf st') lo n) (λk c st' hk1 hk2 h=>?_) (λc st' h=>?_) ⟨rfl,g,Mv.refl _ _ _,λi j a b d=>?_⟩) (λc st' h=>?_))
 ·obtain⟨rfl,g',mv,hs⟩:=h;rw[show min k n=k by omega]at hs
  refine wpS_bind (wpS_mono (wpS_forRange (I:=λx c z=>z=st'/\∃l r,c=(none,l,r)/\l<=r/\r<=k/\r-l<=k-x/\(∀i,lo<=i->i<lo+l->κ.kle (KK κ (arrOf st') i) (KK κ (arrOf st') (lo+k)))/\(∀i,lo+r<=i->i<lo+k->κ.klt (KK κ (arrOf st') (lo+k)) (KK κ (arrOf st') i)))
   (Q:=λc z=>z=st'/\∃l r,c=(none,l,r)/\l<=k/\(∀i,lo<=i->i<lo+l->κ.kle (KK κ (arrOf st') i) (KK κ (arrOf st') (lo+k)))/\(∀i,lo+l<=i->i<lo+k->κ.klt (KK κ (arrOf st') (lo+k)) (KK κ (arrOf st') i)))
   (λx c z hx1 hx2 h=>?_) (λc z h=>?_) ⟨rfl,0,k,rfl,by omega,by omega,by omega,λi a b=>by omega,λi a b=>by omega⟩) (λc z h=>?_))
  ·obtain⟨rfl,l,r,rfl,p1,p2,p3,p4,p5⟩:=h;dsimp only
   by_cases e:l ≥ r
   ·rw[if_pos e];have:l=r:=by omega
    subst this;exact wpS_pure ⟨rfl,l,l,rfl,p2,p4,p5⟩
   ·rw[if_neg e];refine wpS_bind (zco L g' h0 (by omega) (by omega) ?_)
    cases cb:κ.blt (KK κ (arrOf z) (lo+k)) (KK κ (arrOf z) (lo+(l+r) / 2)) with
    |true=>exact wpS_pure ⟨rfl,l,(l+r) / 2,rfl,by omega,by omega,by omega,p4,λi a b=>KeyOrd.klt_of_klt_of_kle cb (hs _ _ (by omega) a (by omega))⟩
    |false=>exact wpS_pure ⟨rfl,(l+r) / 2+1,r,rfl,by omega,by omega,by omega,λi a b=>KeyOrd.kle_trans (hs i (lo+(l+r) / 2) a (by omega) (by omega)) cb,p5⟩
  ·obtain⟨rfl,l,r,rfl,p1,p2,p3,p4,p5⟩:=h;have:l=r:=by omega
   subst this;exact⟨rfl,l,l,rfl,p2,p4,p5⟩
  ·obtain⟨rfl,l,r,rfl,p2,p4,p5⟩:=h;show wpS _ _ _ _ (do moveDown' (lo+k) (lo+l);pure (ForInStep.yield (none,()))) _ _;rw[moveDown'_eq];have sz:lo+k<(arrOf z).size:=by rw[g'.sz];omega
   refine wpS_bind (wpS_modify (wpS_pure ⟨rfl,g'.arr (bubble_perm _ _ _),mv.trans ⟨λi hi=>?_,rfl⟩,?_⟩))
   ·show(bubble (arrOf z) (lo+k) (lo+k-(lo+l)))[i]?=_;rw[getElem?_bubble sz _ (by omega),if_neg (by omega),if_neg (by omega)]
   ·rw[show min (k+1) n=k+1 by omega];intro i j a b d;show κ.kle (KK κ (bubble (arrOf z) (lo+k) (lo+k-(lo+l))) i) (KK κ (bubble (arrOf z) (lo+k) (lo+k-(lo+l))) j);rw[KK_bubble sz (by omega),KK_bubble sz (by omega),show lo+k-(lo+k-(lo+l))=lo+l by omega]
    repeat' split
    all_goals first
     |(exfalso;omega)
     |exact KeyOrd.kle_refl _
     |exact p4 _ (by omega) (by omega)
     |exact KeyOrd.kle_of_klt (p5 _ (by omega) (by omega))
     |exact hs _ _ (by omega) (by omega) (by omega)
 ·obtain⟨h1,h2,h3,h4⟩:=h;rw[show min (max (max ok 1) n) n=n by omega]at h4;exact⟨h1,h2,h3,h4⟩
 ·by_cases e:ok=0
  ·rw[show i=j by omega];exact KeyOrd.kle_refl _
  ·exact hu i j a b (by omega)
 ·obtain⟨rfl,h2,h3,h4⟩:=h;exact wpS_pure (q st' h2 h3 h4)
end
end SQ
namespace SQ
open PySem PyProof.Rows
set_option autoImplicit false
section
variable {prog:Program}{w:World}{A:Around}{E:Value->Shared->Prop}{s:Shared}{κ:KeyKind}{kd:SortKind}
end
end SQ
namespace SQ
open PySem PyProof.Rows
set_option autoImplicit false
def kk(κ:KeyKind)(p:Keyed):κ.α:=(κ.keyOf p.1).getD κ.dflt
def le(κ:KeyKind)(x y:Keyed):Prop:=κ.kle (kk κ x) (kk κ y)
theorem le_refl{κ:KeyKind}(x:Keyed):le κ x x:=KeyOrd.kle_refl _
theorem le_trans{κ:KeyKind}{x y z:Keyed}(a:le κ x y)(b:le κ y z):le κ x z:=KeyOrd.kle_trans a b
def AllK(κ:KeyKind)(xs:Array Keyed):Prop:=∀p∈xs.toList,κ.keyOf p.1=some (kk κ p)
abbrev Srt(κ:KeyKind)(xs:Array Keyed):Prop:=xs.toList.Pairwise (le κ)
theorem Srt.at{κ:KeyKind}{xs:Array Keyed}(h:Srt κ xs){i j:Nat}{p r:Keyed}(hij:i<=j)(e1:xs[i]?=some p)(e2:xs[j]?=some r):le κ p r:=by
 obtain⟨l1,rfl⟩:=Array.getElem?_eq_some_iff.mp e1;obtain⟨l2,rfl⟩:=Array.getElem?_eq_some_iff.mp e2
 by_cases c:i=j
 ·subst c;exact le_refl _
 ·have:=List.pairwise_iff_getElem.mp h i j (by simpa using l1) (by simpa using l2) (by omega);simpa using this
structure MI(κ:KeyKind)(a b out:Array Keyed)(ia ib:Nat):Prop where
 perm:out.toList.Perm (a.toList.take ia++b.toList.take ib)
 sort:out.toList.Pairwise (le κ)
 la:∀x∈out.toList,∀y∈a.toList.drop ia,le κ x y
 lb:∀x∈out.toList,∀y∈b.toList.drop ib,le κ x y
theorem zlk{α:Type}{xs:List α}{i:Nat}{p:α}(e:xs[i]?=some p):xs.drop i=p::xs.drop (i+1):=by
 obtain⟨l,rfl⟩:=List.getElem?_eq_some_iff.mp e;exact List.drop_eq_getElem_cons l
section
variable {κ:KeyKind}{a b out:Array Keyed}{ia ib:Nat}
theorem zvy{xs:Array Keyed}{i:Nat}{p:Keyed}(e:xs[i]?=some p):xs.toList[i]?=some p:=by simpa using e
theorem Srt.rest{xs:Array Keyed}(h:Srt κ xs){i:Nat}{p:Keyed}(e:xs[i]?=some p):∀y∈xs.toList.drop i,le κ p y:=by
 have h2:=h.drop (i:=i);rw[zlk (zvy e)]at h2 ⊢;intro y hy;rcases List.mem_cons.mp hy with rfl|hy
 ·exact le_refl _
 ·exact(List.pairwise_cons.mp h2).1 y hy
def Mg(κ:KeyKind)(a b r:Array Keyed):Prop:=r.toList.Perm (a.toList++b.toList)/\r.toList.Pairwise (le κ)
theorem zae(xs:Array Keyed)(i:Nat):(xs.extract i xs.size).toList=xs.toList.drop i:=by
 rw[Array.toList_extract,List.extract_eq_take_drop,List.take_of_length_le (by simp)]
theorem znw{α:Type}{o x y u v:List α}(h:o.Perm (x++y)):(o++u++v).Perm ((x++u)++(y++v)):=by
 refine((h.append_right u).append_right v).trans ?_;rw[List.append_assoc,List.append_assoc,List.append_assoc x u];refine List.Perm.append_left x ?_;rw[<-List.append_assoc,<-List.append_assoc];exact List.Perm.append_right v List.perm_append_comm
theorem MI.fin(m:MI κ a b out ia ib)(sa:Srt κ a)(sb:Srt κ b)(h:a.size<=ia\/b.size<=ib):Mg κ a b (out++a.extract ia a.size++b.extract ib b.size):=by
 refine⟨?_,?_⟩
 ·rw[Array.toList_append,Array.toList_append,zae,zae];have:=znw (u:=a.toList.drop ia) (v:=b.toList.drop ib) m.perm
  rwa [List.take_append_drop,List.take_append_drop]at this
 ·rw[Array.toList_append,Array.toList_append,zae,zae];rcases h with h|h
  ·rw[List.drop_eq_nil_of_le (by simpa using h:a.toList.length<=ia),List.append_nil];exact List.pairwise_append.mpr ⟨m.sort,sb.drop,m.lb⟩
  ·rw[List.drop_eq_nil_of_le (by simpa using h:b.toList.length<=ib),List.append_nil];exact List.pairwise_append.mpr ⟨m.sort,sa.drop,m.la⟩
end
structure Gm(st st':SortSt):Prop where
 k:kindOf st'=kindOf st
 a:arrOf st'=arrOf st
 p:pendingOf st'=pendingOf st
 f:failedOf st'=failedOf st
theorem Gm.refl(st:SortSt):Gm st st:=⟨rfl,rfl,rfl,rfl⟩
theorem Gm.trans{x y z:SortSt}(h:Gm x y)(g:Gm y z):Gm x z:=⟨g.k.trans h.k,g.a.trans h.a,g.p.trans h.p,g.f.trans h.f⟩
section
variable {prog:Program}{w:World}{A:Around}{E:Value->Shared->Prop}{s:Shared}{κ:KeyKind}{kd:SortKind}
end
end SQ
namespace SQ
open PySem PyProof.Rows
set_option autoImplicit false
section
variable {prog:Program}{w:World}{A:Around}{E:Value->Shared->Prop}{s:Shared}{κ:KeyKind}{kd:SortKind}
theorem zfe{α:Type}{c:Prop}[Decidable c]{x y:StateT SortSt Sem α}{Q:α->SortSt->Prop}{st:SortSt}{M:Model}(h1:c->wpS M A E s x Q st)(h2:¬ c->wpS M A E s y Q st):wpS M A E s (if c then x else y) Q st:=by
 by_cases h:c
 ·rw[if_pos h];exact h1 h
 ·rw[if_neg h];exact h2 h
theorem st5{α β γ δ ε C:Type}{lo hi:Nat}{z:SortSt}{F:α->β->γ->δ->ε->C}{P:Nat->α->β->γ->δ->ε->Prop}{G:Nat->C->SortSt->Prop}(h:∀x,lo<=x->x<hi->∀a b c d e,P x a b c d e->G x (F a b c d e) z):∀x c z',lo<=x->x<hi->(z=z'/\∃a b i d e,c=F a b i d e/\P x a b i d e)->G x c z':=by
 intro x c z' h1 h2 e;obtain⟨rfl,a,b,i,d,e,rfl,p⟩:=e;exact h x h1 h2 a b i d e p
end
end SQ
namespace SQ
open PySem PyProof.Rows
set_option autoImplicit false
structure MH(κ:KeyKind)(a b out:Array Keyed)(na nb:Nat):Prop where
 perm:out.toList.reverse.Perm (a.toList.drop na++b.toList.drop nb)
 sort:out.toList.reverse.Pairwise (le κ)
 la:∀x∈a.toList.take na,∀y∈out.toList.reverse,le κ x y
 lb:∀x∈b.toList.take nb,∀y∈out.toList.reverse,le κ x y
section
variable {κ:KeyKind}{a b out:Array Keyed}{na nb:Nat}
theorem xz(xs:Array Keyed)(n:Nat):(xs.extract 0 n).toList=xs.toList.take n:=by
 rw[Array.toList_extract,List.extract_eq_take_drop,List.drop_zero,Nat.sub_zero]
theorem zjy{α:Type}{o x y u v:List α}(h:o.Perm (x++y)):(u++v++o).Perm ((u++x)++(v++y)):=by
 refine(List.Perm.append_left _ h).trans ?_;rw[List.append_assoc,List.append_assoc u x];refine List.Perm.append_left u ?_;rw[<-List.append_assoc,<-List.append_assoc];exact List.Perm.append_right y List.perm_append_comm
theorem MH.fin(m:MH κ a b out na nb)(sa:Srt κ a)(sb:Srt κ b)(h:na=0\/nb=0):Mg κ a b (a.extract 0 na++b.extract 0 nb++out.reverse):=by
 refine⟨?_,?_⟩
 ·rw[Array.toList_append,Array.toList_append,xz,xz,Array.toList_reverse];have:=zjy (u:=a.toList.take na) (v:=b.toList.take nb) m.perm
  rwa [List.take_append_drop,List.take_append_drop]at this
 ·rw[Array.toList_append,Array.toList_append,xz,xz,Array.toList_reverse];rcases h with rfl|rfl
  ·rw[List.take_zero,List.nil_append];exact List.pairwise_append.mpr ⟨sb.take,m.sort,m.lb⟩
  ·rw[List.take_zero,List.append_nil];exact List.pairwise_append.mpr ⟨sa.take,m.sort,m.la⟩
theorem MH.first(m:MH κ a b out na nb)(sa:Srt κ a)(sb:Srt κ b)(h:∀x∈b.toList.take nb,∀y∈a.toList,le κ x y):Mg κ a b (b.extract 0 nb++a.extract 0 na++out.reverse):=by
 refine⟨?_,?_⟩
 ·rw[Array.toList_append,Array.toList_append,xz,xz,Array.toList_reverse];have:=zjy (u:=b.toList.take nb) (v:=a.toList.take na) (m.perm.trans List.perm_append_comm);rw[List.take_append_drop,List.take_append_drop]at this;exact this.trans List.perm_append_comm
 ·rw[Array.toList_append,Array.toList_append,xz,xz,Array.toList_reverse];refine List.pairwise_append.mpr ⟨List.pairwise_append.mpr ⟨sb.take,sa.take,λx hx y hy=>h x hx y (List.mem_of_mem_take hy)⟩,m.sort,λx hx y hy=>?_⟩;rcases List.mem_append.mp hx with hx|hx
  ·exact m.lb x hx y hy
  ·exact m.la x hx y hy
end
section
variable {prog:Program}{w:World}{A:Around}{E:Value->Shared->Prop}{s:Shared}{κ:KeyKind}{kd:SortKind}
end
end SQ
namespace SQ
open PySem PyProof.Rows
set_option autoImplicit false
section
variable {prog:Program}{w:World}{A:Around}{E:Value->Shared->Prop}{s:Shared}{κ:KeyKind}{kd:SortKind}{a₀:Array Keyed}
theorem AllK.of{xs:Array Keyed}(h:∀p∈xs.toList,∃a,κ.keyOf p.1=some a):AllK κ xs:=λp hp=>by
 obtain⟨a,e⟩:=h p hp;unfold kk;rw[e];rfl
end
end SQ
namespace SQ
open PySem PyProof.Rows
set_option autoImplicit false
section
variable {prog:Program}{w:World}{A:Around}{E:Value->Shared->Prop}{s:Shared}{κ:KeyKind}{kd:SortKind}{a₀:Array Keyed}
end
end SQ
namespace SQ
open PySem PyProof.Rows
set_option autoImplicit false
def Cov(κ:KeyKind)(xs:Array Keyed):Nat->List (Nat×Nat×Nat)->Nat->Prop
 |at_,[],hi=>at_=hi
 |at_,(b,n,_)::r,hi=>b=at_/\1<=n/\Up κ xs at_ n/\Cov κ xs (at_+n) r hi
section
variable {κ:KeyKind}
theorem Cov.le{xs:Array Keyed}:∀{l:List (Nat×Nat×Nat)}{at_ hi:Nat},Cov κ xs at_ l hi->at_+l.length<=hi
 |[],at_,hi,h=>by have:at_=hi:=h;simp;omega
 |(b,n,p)::r,at_,hi,h=>by
  obtain⟨_,h1,_,h2⟩:=h;have:=h2.le;simp only[List.length_cons];omega
theorem Cov.push{xs:Array Keyed}{n pw:Nat}:∀{l:List (Nat×Nat×Nat)}{at_ hi:Nat},Cov κ xs at_ l hi->1<=n->Up κ xs hi n->Cov κ xs at_ (l ++ [(hi,n,pw)]) (hi+n)
 |[],at_,hi,h,hn,u=>by
  have e:at_=hi:=h;subst e;exact⟨rfl,hn,u,rfl⟩
 |(b,m,p)::r,at_,hi,h,hn,u=>⟨h.1,h.2.1,h.2.2.1,h.2.2.2.push hn u⟩
end
section
variable {prog:Program}{w:World}{A:Around}{E:Value->Shared->Prop}{s:Shared}{κ:KeyKind}{kd:SortKind}{a₀:Array Keyed}
end
end SQ
namespace SQ
open PySem PyProof.Rows
set_option autoImplicit false
section
variable {prog:Program}{w:World}{A:Around}{E:Value->Shared->Prop}{s:Shared}
theorem zll{Q:List Value->Shared->Prop}{l:Addr}{T:String}{o:Obj}{xs:Array Value}{n:Nat}(hT:T = "list" \/ T = "tuple")(ho:s.heap.get? l=some o)(hc:o.cls=.type T)(hd:o.data=.seq xs n)(hz:xs.size<=sizeLine)
  (q:Q xs.toList { s with heap:=(s.heap.push (seqObj "list" #[] 0)).update s.heap.objs.size (Obj.mapSeq (·++xs)) }):wpAny (model prog w) A (collect (.ref l)) Q E s:=by
 unfold collect;refine wpAny_bind (wpAny_runValue (codeAny_builtin PySem.F.entry_proto_collect ?_));rw[Around.under_plainId PySem.F.plain_proto_collect _];show wpAny _ A.in1 (newList [] >>= λz=>again (.builtin "list.__iadd__" ⟨[z,.ref l],[]⟩)) _ _ s;refine wpAny_bind (wpAny_newObj_type ?_);refine wpAny_pure ⟨plainId_quiet PySem.F.plain_list_iadd _,codeAny_builtin PySem.F.entry_list_iadd ?_⟩;rw[Around.under_plainId PySem.F.plain_list_iadd _];show wpAny _ A.in1 (Builtin.List.listExtendWith (.ref s.heap.objs.size) (.ref l) (.ref s.heap.objs.size)) _ _ _;have g1:(s.heap.push { cls:=.type "list",data:=.seq ([]:List Value).toArray }).get? s.heap.objs.size=some { cls:=.type "list",data:=.seq #[] 0 }:=Heap.get?_push_size _ rfl;have g2:=Heap.get?_update_self (Obj.mapSeq (·++xs)) g1 rfl;have fin:wpAny (model prog w) A (match Value.ref s.heap.objs.size with
   |Value.ref z=>do
    match (<-load z).data with
     |Data.seq ys _=>pure ys.toList
     |_=>unsupported "internal:collect"
   |_=>unsupported "internal:collect") Q E { s with heap:=(s.heap.push { cls:=.type "list",data:=.seq ([]:List Value).toArray }).update s.heap.objs.size (Obj.mapSeq (·++xs)) }:=by
  show wpAny _ A (load s.heap.objs.size >>= _) _ _ _;refine wpAny_bind (wpAny_load g2 (wpAny_pure ?_));show Q ((#[]:Array Value)++xs).toList _;rw[show((#[]:Array Value)++xs).toList=xs.toList by simp];exact q
 refine wpAny_mono (wpAny_extend_seq (hsz:=hz) (A:=A) (R:=λr s'=>r=.ok (.ret (.ref s.heap.objs.size))/\s' = { s with heap:=(s.heap.push { cls:=.type "list",data:=.seq ([]:List Value).toArray }).update s.heap.objs.size (Obj.mapSeq (·++xs)) })
  (s:={ s with heap:=s.heap.push { cls:=.type "list",data:=.seq ([]:List Value).toArray } }) _ l _ 0 hT g1 (Heap.get?_push_of_some _ ho) hc hd ⟨rfl,rfl⟩) (λf s' z=>?_) (λe s' z=>absurd z.1 (by simp))
 cases f with
 |done f=>
  obtain⟨e,rfl⟩:=z
  cases e;exact fin
 |again c'=>exact⟨z.1,codeAny_mono z.2 λr s2 y=>by obtain⟨rfl,rfl⟩:=y;exact fin⟩
theorem zpv(A:Around):A.in1.in1.units<=A.units+8:=by show A.units+1+1<=_;omega
end
end SQ
namespace SQ
open PySem PyProof.Rows
set_option autoImplicit false
@[reducible] def intK:KeyKind where
 α:=Int
 blt a b:=decide (a<b)
 irrefl a:=by simp
 trans a b c h1 h2:=by simp only[decide_eq_true_eq]at *;omega
 negTrans a b c h:=by simp only[decide_eq_true_eq]at *;omega
 total a b h1 h2:=by simp only[decide_eq_false_iff_not]at *;omega
 keyOf v:=match v with|.int i _=>some i|_=>none
 dflt:=0
theorem zpw{prog:Program}{w:World}{A:Around}{s:Shared}:za6 prog w A s intK oneType':=λE x y a b Q ha hb q=>by
 cases x <;> simp only[intK,reduceCtorEq,Option.some.injEq]at ha
 cases y <;> simp only[intK,reduceCtorEq,Option.some.injEq]at hb
 cases ha;cases hb;rw[keyLt'_oneType];exact oneLt_int q
def RefIs(h:Heap)(v:Value)(is:List Int):Prop:=∃a its,v=.ref a/\IsTup h a its/\IntsAre its.toList is
theorem IntsAre.same{vs:List Value}{ns ms:List Int}(h:IntsAre vs ns)(h':IntsAre vs ms):ns=ms:=by rw[<-h.nums,<-h'.nums]
theorem RefIs.uniq{h:Heap}{v:Value}{is js:List Int}(x:RefIs h v is)(y:RefIs h v js):is=js:=by
 obtain⟨a,its,rfl,⟨o,e,_,n,d⟩,i1⟩:=x;obtain⟨a',its',e',⟨o',e2,_,n',d'⟩,i2⟩:=y
 cases e';rw[e]at e2
 cases e2;rw[d]at d'
 cases d';exact IntsAre.same i1 i2
theorem RefIs.keep{h h':Heap}{v:Value}{is:List Int}(k:∀b o,h.get? b=some o->h'.get? b=some o)(x:RefIs h v is):RefIs h' v is:=by
 obtain⟨a,its,e,t,i⟩:=x;exact⟨a,its,e,t.keeps k,i⟩
open Classical in
noncomputable def jz (h:Heap) (v:Value):Option (List Int):=if x:∃is,RefIs h v is then some x.choose else none
theorem zbs{h:Heap}{v:Value}{is:List Int}(e:jz h v=some is):RefIs h v is:=by
 unfold jz at e
 split at e
 ·next x=>cases e;exact x.choose_spec
 ·cases e
theorem jf{h:Heap}{v:Value}{is:List Int}(x:RefIs h v is):jz h v=some is:=by
 unfold jz;rw[dif_pos ⟨is,x⟩];rw[(Exists.choose_spec (p:=λis=>RefIs h v is) ⟨is,x⟩).uniq x]
@[reducible] noncomputable def zcr (h:Heap):KeyKind where
 α:=List Int
 blt a b:=decide (a<b)
 irrefl a:=by simpa using List.lt_irrefl a
 trans a b c h1 h2:=by simp only[decide_eq_true_eq]at *;exact List.lt_trans h1 h2
 negTrans a b c h:=by
  simp only[decide_eq_true_eq]at *
  by_cases c:a<b
  ·exact .inl c
  ·exact .inr (List.lt_of_le_of_lt (List.not_lt.mp c) h)
 total a b h1 h2:=by simp only[decide_eq_false_iff_not]at *;exact List.le_antisymm (List.not_lt.mp h2) (List.not_lt.mp h1)
 keyOf v:=jz h v
 dflt:=[]
section
variable {prog:Program}{w:World}{A:Around}{E:Value->Shared->Prop}{s:Shared}
theorem zii{a b:Int}{t u:Tok}{f:Bool}{Q:Bool->Shared->Prop}(h:Q (decide (a<b)) s):wpAny (model prog w) A (oneLt' f (.int a t) (.int b u)) Q E s:=by
 cases f with
 |true=>exact oneLt_int h
 |false=>
  rw[oneLt'_eq];rw[if_neg (by decide)];have:=CmpOf.ints_lt (prog:=prog) (w:=w) (A:=A) (P:=λi v=>(i=0/\v=.int a t)\/(i=1/\v=.int b u)) (λi=>if i=0 then a else b) (λi v hv=>by
   rcases hv with⟨rfl,rfl⟩ |⟨rfl,rfl⟩
   ·exact⟨t,rfl⟩
   ·exact⟨u,rfl⟩)
  exact wpAny_bind (this 0 1 _ _ s _ E (.inl ⟨rfl,rfl⟩) (.inr ⟨rfl,rfl⟩) (wpAny_truthy_bool h))
theorem zjz{f:Bool}:∀{xs ys:List Value}{as bs:List Int} (k:Nat) (Q:Option Bool×Unit->Shared->Prop),IntsAre xs as->IntsAre ys bs->(∀r,(r=none->as.take bs.length=bs.take as.length)->(∀b,r=some b->b=decide (as<bs))->Q (r,()) s) ->
  wpAny (model prog w) A (forIn ((xs.zip ys).zipIdx k) ((none,()):Option Bool×Unit) λx _=>match x with
   |((p,q),i)=>do
    let e <-eqBool p q
    if (!e)=true then do
     let r <-oneLt' (f && i == 0) p q
     pure (ForInStep.done (some r,()))
    else pure (ForInStep.yield (none,()))) Q E s
 |_,_,_,_,k,Q,.nil,h2,q=>by
  simp only[List.zip_nil_left,List.zipIdx_nil,List.forIn_nil];exact wpAny_pure (q none (λ_=>by simp) (λb e=>by cases e))
 |_,_,_,_,k,Q,.cons a t h1,.nil,q=>by
  simp only[List.zip_nil_right,List.zipIdx_nil,List.forIn_nil];exact wpAny_pure (q none (λ_=>by simp) (λb e=>by cases e))
 |_,_,_,_,k,Q,.cons (ns:=as) a t h1,.cons (ns:=bs) b u h2,q=>by
  simp only[List.zip_cons_cons,List.zipIdx_cons,List.forIn_cons];refine wpAny_bind ?_;refine wpAny_bind (wpAny_eqBool_int ?_)
  by_cases c:a=b
  ·subst c;rw[if_neg (by simp)];refine wpAny_pure (zjz (k+1) Q h1 h2 λr r1 r2=>q r (λe=>?_) λd e=>?_)
   ·simp only[List.length_cons,List.take_succ_cons];rw[r1 e]
   ·rw[r2 d e];exact decide_eq_decide.mpr (by rw[List.cons_lt_cons_iff];simp)
  ·rw[if_pos (by simpa using c)];refine wpAny_bind (zii (wpAny_pure (wpAny_pure (q _ (λe=>by cases e) λd e=>?_))))
   cases e;exact decide_eq_decide.mpr (by rw[List.cons_lt_cons_iff];simp[c])
theorem zd8:∀{as bs:List Int},as.take bs.length=bs.take as.length->decide (as<bs)=decide (as.length<bs.length)
 |[],[],_=>by simp
 |[],b::bs,_=>by simp
 |a::as,[],_=>by simp
 |a::as,b::bs,h=>by
  simp only[List.length_cons,List.take_succ_cons,List.cons.injEq]at h;obtain⟨rfl,h⟩:=h;have:=zd8 h;rw[decide_eq_decide]at this ⊢;rw[List.cons_lt_cons_iff];simp only[Int.lt_irrefl,false_or,true_and,List.length_cons,this];omega
theorem zj0{h₀:Heap}{f:Bool}(k:∀b o,h₀.get? b=some o->s.heap.get? b=some o):za6 prog w A s (zcr h₀) (tuples' f):=λE x y a b Q ha hb q=>by
 obtain⟨ra,ia,rfl,⟨oa,ga,_,na,da⟩,ta⟩:=(zbs ha).keep k;obtain⟨rb,ib,rfl,⟨ob,gb,_,nb,db⟩,tb⟩:=(zbs hb).keep k;refine wpAny_bind (listItems_at ga da (wpAny_bind (listItems_at gb db (wpAny_bind (zjz 0 _ ta tb λr r1 r2=>?_)))))
 cases r with
 |some d=>
  dsimp only
  cases r2 d rfl;exact wpAny_pure q
 |none=>
  dsimp only;refine wpAny_pure ?_;have:=zd8 (r1 rfl);rw[<-ta.length,<-tb.length]at this;rw[show decide (ia.size<ib.size)=(zcr h₀).blt a b from ?_]
  ·exact q
  ·show _=decide (a<b);rw[this];simp
end
end SQ
namespace SQ
open PySem PyProof.Rows
set_option autoImplicit false
inductive All2{α β:Type}(R:α->β->Prop):List α->List β->Prop
 |nil:All2 R [] []
 |cons {a:α}{b:β}{as:List α}{bs:List β} (h:R a b) (t:All2 R as bs):All2 R (a::as) (b::bs)
theorem All2.len{α β:Type}{R:α->β->Prop}{as:List α}{bs:List β}(h:All2 R as bs):as.length=bs.length:=by
 induction h with
 |nil=>rfl
 |cons _ _ ih=>simp[ih]
theorem All2.imp{α β:Type}{R S:α->β->Prop}(f:∀a b,R a b->S a b){as:List α}{bs:List β}(h:All2 R as bs):All2 S as bs:=by
 induction h with
 |nil=>exact .nil
 |cons h _ ih=>exact .cons (f _ _ h) ih
theorem All2.mem{α β:Type}{R:α->β->Prop}{as:List α}{bs:List β}(h:All2 R as bs){a:α}(ha:a∈as):∃b∈bs,R a b:=by
 induction h with
 |nil=>cases ha
 |cons h _ ih=>
  rcases List.mem_cons.mp ha with rfl|ha
  ·exact⟨_,List.mem_cons_self,h⟩
  ·obtain⟨b,hb,r⟩:=ih ha;exact⟨b,List.mem_cons_of_mem _ hb,r⟩
section
variable {prog:Program}{w:World}{A:Around}{E:Value->Shared->Prop}{s:Shared}
theorem zlm{v:Value}{i:Int}{is:List Int}(h:RefIs s.heap v (i::is)):∃t,∀Q:Option Value->Shared->Prop,Q (some (.int i t)) s->wpAny (model prog w) A (firstOfTuple' v) Q E s:=by
 obtain⟨a,its,rfl,⟨o,g,c,n,d⟩,ii⟩:=h;obtain⟨t,rest,e⟩:∃t rest,its.toList=.int i t::rest:=by
  cases e:its.toList with
  |nil=>rw[e]at ii;cases ii
  |cons x r=>
   rw[e]at ii
   cases ii with
   |cons n t h=>exact⟨t,r,rfl⟩
 refine⟨t,λQ q=>wpAny_bind (wpAny_typeOf (T := "tuple") ⟨o,g,c⟩ ?_)⟩;rw[if_neg (by decide)];refine wpAny_bind (listItems_at g d (wpAny_pure ?_));have:its[0]?=some (.int i t):=by rw[<-Array.getElem?_toList,e];rfl
 rw[this];exact q
theorem zd9:∀{vs:List Value}{tss:List (List Int)},All2 (RefIs s.heap) vs tss->(∀t∈tss,t ≠ [])->∃(fs:List Value) (ns:List Int),IntsAre fs ns/\fs.length=vs.length/\∀Q:List (Option Value)->Shared->Prop,Q (fs.map some) s->wpAny (model prog w) A (vs.mapM firstOfTuple') Q E s
 |_,_,.nil,_=>⟨[],[],.nil,rfl,λQ q=>by rw[List.mapM_nil];exact wpAny_pure q⟩
 |_,_,.cons (b:=t) h r,hne=>by
  obtain⟨fs,ns,i1,l1,w1⟩:=zd9 r λx hx=>hne x (List.mem_cons_of_mem _ hx)
  cases t with
  |nil=>exact absurd rfl (hne [] List.mem_cons_self)
  |cons i is=>
   obtain⟨t,w2⟩:=zlm (prog:=prog) (w:=w) (A:=A) (E:=E) h;refine⟨.int i t::fs,i::ns,.cons i t i1,by simp[l1],λQ q=>?_⟩;rw[List.mapM_cons];exact wpAny_bind (w2 _ (wpAny_bind (w1 _ (wpAny_pure q))))
theorem zea{vs:List Value}{tss:List (List Int)}{Q:SortKind->Shared->Prop}(h:All2 (RefIs s.heap) vs tss)(hne:∀t∈tss,t ≠ [])(h2:2<=vs.length)(q:Q (tuples' true) s):wpAny (model prog w) A (keyKind' vs.toArray) Q E s:=by
 obtain⟨fs,ns,i1,l1,w1⟩:=zd9 (prog:=prog) (w:=w) (A:=A) (E:=E) h hne;rw[keyKind'_eq,List.mapM_toArray];simp only[map_eq_pure_bind,bind_assoc,pure_bind];refine wpAny_bind (w1 _ ?_);rw[if_pos (by simp)];refine wpAny_bind (m:=rule _) (wpAny_rule ?_);have ef:Array.filterMap id (List.map some fs).toArray=fs.toArray:=by simp
 rw[ef,oneTypeOnly'_eq,List.mapM_toArray,mapM_typeOf_ints i1];simp only[map_pure,pure_bind]
 cases fs with
 |nil=>simp at l1;omega
 |cons f fs=>
  have hall:((List.map (λ_=>Value.type "int") (f::fs)).toArray.all λx=>x == Value.type "int")=true:=by
   simp only[List.all_toArray,List.all_map,List.all_eq_true];intro _ _;rfl
  have g0:(List.map (λ_=>Value.type "int") (f::fs)).toArray[0]?=some (Value.type "int"):=by simp
  rw[g0];simp only[hall,if_true,pure_bind];exact wpAny_pure q
theorem qf{κ:KeyKind}{vs:List Value}(h:∀v∈vs,∃a,κ.keyOf v=some a):KeysOf κ (pairsOf vs):=λp hp=>by
 rw[pairsOf_toList]at hp;exact h _ (mem_zip_self hp).2
theorem za7{κ:KeyKind}{vs:List Value}{out:Array Keyed}(p:out.Perm (pairsOf vs))(so:SortedToK κ out (pairsOf vs).size)(hk:∀v∈vs,∃a,κ.keyOf v=some a):
  (out.map (·.2)).toList.Perm vs/\∃ks:List κ.α,All2 (λv k=>κ.keyOf v=some k) (out.map (·.2)).toList ks/\ks.Pairwise κ.kle:=by
 have pl:=Array.perm_iff_toList_perm.mp p;rw[pairsOf_toList]at pl;have diag:∀x∈out.toList,x.1=x.2/\x.1∈vs:=λx hx=>mem_zip_self (pl.mem_iff.mp hx);refine⟨?_,out.toList.map λx=>(κ.keyOf x.1).getD κ.dflt,?_,?_⟩
 ·rw[Array.toList_map];have:=pl.map (·.2)
  rwa [show(vs.zip vs).map (·.2)=vs by rw[List.map_snd_zip (Nat.le_refl _)]]at this
 ·rw[Array.toList_map];clear so p pl;generalize out.toList=l at diag
  induction l with
  |nil=>exact .nil
  |cons x l ih=>
   refine .cons ?_ (ih λy hy=>diag y (List.mem_cons_of_mem _ hy));obtain⟨e,m⟩:=diag x List.mem_cons_self;obtain⟨a,ea⟩:=hk _ m;show κ.keyOf x.2=some ((κ.keyOf x.1).getD κ.dflt);rw[<-e,ea];rfl
 ·rw[List.pairwise_map,List.pairwise_iff_getElem];intro i j h1 h2 hij;have h1':i<out.size:=by simpa using h1
  have h2':j<out.size:=by simpa using h2
  have:=so i j (Nat.le_of_lt hij) (by rw[<-p.size_eq];exact h2');unfold KK at this;rw[Array.getElem?_eq_getElem h1',Array.getElem?_eq_getElem h2']at this;simpa using this
end
end SQ
namespace L2
open PySem PySem.Spec PyProof.Rows SQ
def zj1(ns:List Int):List Int:=ns.mergeSort (λa b=>decide (a<=b))
def qo(tss:List (List Int)):List (List Int):=tss.mergeSort (λa b=>!decide (b<a))
def tD(is:List Int):D:=.tuple (is.map PyData.int)
theorem zij(ns:List Int):(zj1 ns).Perm ns:=List.mergeSort_perm _ _
theorem znx(ns:List Int):(zj1 ns).Pairwise (· <= ·):=by
 have:=List.pairwise_mergeSort (le:=λa b:Int=>decide (a<=b)) (λa b c h1 h2=>by simp at *;omega) (λa b=>by simp;omega) ns;exact this.imp λh=>by simpa using h
theorem zik{ms ns:List Int}(p:ms.Perm ns)(h:ms.Pairwise (· <= ·)):ms=zj1 ns:=(p.trans (zij ns).symm).eq_of_pairwise (λa b _ _ h3 h4=>Int.le_antisymm h3 h4) h (znx ns)
theorem j0(tss:List (List Int)):(qo tss).Perm tss:=List.mergeSort_perm _ _
theorem zln{a b c:List Int}(h1:¬ b<a)(h2:¬ c<b):¬ c<a:=λh=>h1 (List.lt_of_le_of_lt (List.not_lt.mp h2) h)
theorem zgl(tss:List (List Int)):(qo tss).Pairwise λa b=>¬ b<a:=by
 have:=List.pairwise_mergeSort (le:=λa b:List Int=>!decide (b<a)) (λa b c h1 h2=>by
  simp only[Bool.not_eq_true',decide_eq_false_iff_not]at *;exact zln h1 h2) (λa b=>by
  simp only[Bool.or_eq_true,Bool.not_eq_true',decide_eq_false_iff_not]
  by_cases c:b<a
  ·exact .inr λz=>List.lt_irrefl _ (List.lt_trans z c)
  ·exact .inl c) tss
 exact this.imp λh=>by simpa using h
theorem qg{ss tss:List (List Int)}(p:ss.Perm tss)(h:ss.Pairwise λa b=>¬ b<a):ss=qo tss:=(p.trans (j0 tss).symm).eq_of_pairwise (λa b _ _ h3 h4=>List.le_antisymm (List.not_lt.mp h3) (List.not_lt.mp h4)) h (zgl tss)
def zil(xs:List D)(Q:List D->Prop):Prop:=(∃ns:List Int,xs=ns.map PyData.int/\Q ((zj1 ns).map PyData.int))\/∃tss:List (List Int),xs=tss.map tD/\(∀t∈tss,t ≠ [])/\Q ((qo tss).map tD)
theorem jg{K:PySem.W.Frag}{H:Hp}{us us':List Value}(p:us'.Perm us):∀{vs:List V}{ds:List D},Vals vs us->Reps K H ds vs->∃vs' ds',Vals vs' us'/\Reps K H ds' vs'/\ds'.Perm ds:=by
 induction p with
 |nil=>intro vs ds r rp;exact⟨vs,ds,r,rp,.refl _⟩
 |cons u p ih=>
  intro vs ds r rp
  cases r with
  |cons r1 r2=>
   cases rp with
   |cons q1 q2=>
    obtain⟨vs',ds',a1,a2,a3⟩:=ih r2 q2;exact⟨_,_,.cons r1 a1,.cons q1 a2,a3.cons _⟩
 |swap u v l=>
  intro vs ds r rp
  cases r with
  |cons r1 r2=>
   cases r2 with
   |cons r3 r4=>
    cases rp with
    |cons q1 q2=>
     cases q2 with
     |cons q3 q4=>exact⟨_,_,.cons r3 (.cons r1 r4),.cons q3 (.cons q1 q4),.swap _ _ _⟩
 |trans p1 p2 ih1 ih2=>
  intro vs ds r rp;obtain⟨vs1,ds1,a1,a2,a3⟩:=ih2 r rp;obtain⟨vs2,ds2,b1,b2,b3⟩:=ih1 a1 a2;exact⟨vs2,ds2,b1,b2,b3.trans a3⟩
section
variable {X:Cx}
theorem zaf{pins:List (Addr×Obj)}{σ:St}{H:Hp}{s:Shared}(I:Inv X pins σ H s):∀{tss:List (List Int)}{vs:List V}{us:List Value},Reps X.K H (tss.map tD) vs->Vals vs us->All2 (RefIs s.heap) us tss
 |[],_,_,.nil,.nil=>.nil
 |t::tss,_,_,.cons r rs,.cons q qs=>by
  refine .cons ?_ (zaf I rs qs)
  cases r with
  |tup h r=>
   cases q;have:=Reps.of_ints r;subst this;obtain⟨its,rv,ht,_⟩:=I.tuple h;exact⟨_,its.toArray,rfl,ht,by simpa using xk rv⟩
theorem zag{α:Type}{f:α->D}(g:D->α)(hg:∀a,g (f a)=a){ds:List D}{as:List α}(p:ds.Perm (as.map f)):∃bs:List α,ds=bs.map f/\bs.Perm as:=by
 have:∀d∈ds,∃a,d=f a/\True:=λd hd=>by
  obtain⟨a,_,e⟩:=List.mem_map.mp (p.mem_iff.mp hd);exact⟨a,e.symm,trivial⟩
 obtain⟨bs,e,_⟩:=zju this;subst e;refine⟨bs,rfl,?_⟩;have z:∀l:List α,(l.map f).map g=l:=λl=>by rw[List.map_map];exact(List.map_congr_left λa _=>hg a).trans (List.map_id _)
 have:=p.map g
 rwa [z,z]at this
def deI:D->Int
 |.int i=>i
 |_=>0
def deT:D->List Int
 |.tuple xs=>xs.map deI
 |_=>[]
theorem zpx(i:Int):deI (.int i)=i:=rfl
theorem zim(is:List Int):deT (tD is)=is:=by
 show(is.map PyData.int).map deI=is;rw[List.map_map];exact(List.map_congr_left λa _=>rfl).trans (List.map_id _)
end
end L2
namespace L2
open PySem PySem.Spec PyProof.Rows
namespace RV
theorem zxm:Manifest.owners.lookup (String.ofList ['d','e','s','r','e','v','e','r'].reverse)=some Manifest.sig_reversed:=by kernel_rfl
theorem sNext:Slot "reversed" "__next__" "reversed.__next__" := .of (owner := "reversed") (n := "__next__") (by rw[typeLookup_type,builtinLookup_eq_fast];kernel_rfl) (by decide +kernel) (by decide +kernel) (by decide +kernel) (by first|exact .inl (by decide +kernel)|exact .inr (by decide +kernel)) (by rw[isSubtype_type];kernel_rfl)
theorem zrg:Slot "reversed" "__iter__" "reversed.__iter__" := .of (owner := "reversed") (n := "__iter__") (by rw[typeLookup_type,builtinLookup_eq_fast];kernel_rfl) (by decide +kernel) (by decide +kernel) (by decide +kernel) (by first|exact .inl (by decide +kernel)|exact .inr (by decide +kernel)) (by rw[isSubtype_type];kernel_rfl)
theorem zvz(a:Value):argsOk "reversed.__iter__" ⟨[a],[]⟩:=by
 unfold argsOk;rw[signature?_of (id := "reversed.__iter__") (n:=['_','_','r','e','t','i','_','_']) (o:=['d','e','s','r','e','v','e','r']) (by kernel_rfl) zxm];kernel_rfl
theorem zv0:entryFor table "reversed.__iter__" = some Builtin.«dict_keyiterator.__iter__»:=entryFor_alias (id' := "dict_keyiterator.__iter__") (by kernel_rfl) (by first|rfl|decide +kernel |(unfold String.splitOn;simp +decide [String.splitOnAux])) (by decide +kernel) (by kernel_rfl)
end RV
namespace RV
def ob(l:Addr)(i:Int):Obj:={ cls:=.type "reversed",data:=.fields #[.ref l,rawInt i] }
def Is(h:Heap)(a l:Addr)(i:Int):Prop:=∃o,h.get? a=some o/\o.cls=.type "reversed" /\ o.data=.fields #[.ref l,rawInt i]
theorem Is.typeIs{s:Shared}{a l:Addr}{i:Int}(x:Is s.heap a l i):s.TypeIs (.ref a) "reversed" := let ⟨o,ho,hc,_⟩:=x;⟨o,ho,hc⟩
theorem Is.at{h h':Heap}{a l:Addr}{i:Int}(x:Is h a l i)(e:∀o,h.get? a=some o->h'.get? a=some o):Is h' a l i:=let ⟨o,ho,r⟩:=x;⟨o,e _ ho,r⟩
section
variable {prog:Program}{w:World}{A:Around}{E:Value->Shared->Prop}{s:Shared}
theorem iter{it l:Addr}{i:Int}{Q:Value->Shared->Prop}(hit:Is s.heap it l i)(h:Q (.ref it) s):wpAny (model prog w) A (pyIter (.ref it)) Q E s:=by
 refine wpAny_pyIter_slot hit.typeIs zrg (wpAny_call_entry zrg hit.typeIs zv0 ?_ (zvz _));show wpAny _ _ (ret (.ref it)) _ _ s;exact wpAny_pure ⟨_,rfl, "reversed",_,hit.typeIs,sNext.lookup,h⟩
end
end RV
section
variable {X:Cx}{tg a:Expr}{t:DTF}{p pos:Pos}
end
section
variable {X:Cx}{a:Expr}{p pos p2 pos2:Pos}
end
def zxn(TI TO:Addr)(old fl:Value):Obj:={ cls:=.type "zip",dict:=none,data:=.fields #[old,fl,.bool false,.ref TI,.ref TO],slots:=#[] }
def IsZ(h:Heap)(z TI TO:Addr)(old fl:Value):Prop:=h.get? z=some (zxn TI TO old fl)
def zxo(old:Value):Prop:=old=.none\/∃p:Addr,old=rawInt p
section
variable {prog:Program}{w:World}{A:Around}{E:Value->Shared->Prop}{s:Shared}
end
def ZSt(b1 b2:Bool)(z TI TO i1 i2 l1 l2:Addr)(k:Nat)(h:Heap):Prop:=∃old fl a b,IsZ h z TI TO old fl/\zxo old/\IsPair h TI (.ref i1) (.ref i2)/\IsPair h TO a b/\zIt b1 h i1 l1 k/\zIt b2 h i2 l2 k
theorem ZSt.keep{b1 b2:Bool}{z TI TO i1 i2 l1 l2:Addr}{k:Nat}{h h':Heap}(st:ZSt b1 b2 z TI TO i1 i2 l1 l2 k h)(kp:∀b ∈ [z,TI,TO,i1,i2],∀o,h.get? b=some o->h'.get? b=some o):ZSt b1 b2 z TI TO i1 i2 l1 l2 k h':=by
 obtain⟨old,fl,a,b,hz,ho,hI,hO,h1,h2⟩:=st;exact⟨old,fl,a,b,kp _ (by simp) _ hz,ho,kp _ (by simp) _ hI,kp _ (by simp) _ hO,h1.at λo e=>kp i1 (by simp) o e,h2.at λo e=>kp i2 (by simp) o e⟩
section
variable {prog:Program}{w:World}{A:Around}{E:Value->Shared->Prop}{s:Shared}
end
section
variable {prog:Program}{w:World}{A:Around}{E:Value->Shared->Prop}{s:Shared}
end
section
variable {X:Cx}{a b:Expr}{p pos p2 pos2:Pos}{elts:List Expr}{tpos:Pos}
end
def zv1(k:Int):Value->Bool
 |.int i _=>i == k
 |_=>false
theorem zpy{ns:List Int}{its:List Value}(r:Vals (ns.map V.int) its):∀y∈its,∃i t,y=Value.int i t:=λy hy=>by
 obtain⟨j,hj⟩:=List.mem_iff_getElem?.mp hy;have hl:=r.length;rw[List.length_map]at hl;have hlt:j<ns.length:=by have:=(List.getElem?_eq_some_iff.mp hj).1;omega
 have hx:(ns.map V.int)[j]?=some (.int ns[j]):=by simp[hlt]
 obtain⟨u,hu,ru⟩:=r.get hx;rw[hj]at hu
 cases hu;obtain⟨t,rfl⟩:=ru;exact⟨_,_,rfl⟩
section
variable {X:Cx}
variable {o e:Expr}{to te:DTE}{apos cpos:Pos}
theorem zeb{K:PySem.W.Frag}{H:Hp}:∀{ns:List Int}{vs:List V},Reps K H (ns.map PyData.int) vs->vs=ns.map V.int
 |[],_,r=>by cases r;rfl
 |n::ns,_,r=>by
  cases r with
  |cons r t=>
   cases r;rw[zeb t];rfl
end
section
variable {X:Cx}{e:Expr}{tf:DTF}{pos:Pos}
def zpz(i:Nat)(tf:DTF):DTS:=λDn σ=>match σ[i]? with
 |some (some (.own (.lst xs)))=>tf σ λys=>xs.length+ys.length<=sizeLine/\Dn.nx (clr (σ.set i (some (.own (.lst (xs++ys))))))
 |_=>False
theorem zec(i:Nat){x:Str}{p1 apos cpos:Pos}(he:DF X e tf)(hN:X.N[i]?=some x:=by rfl)(hv:Vis X.env.scope x:=by first|exact Or.inl rfl|exact Or.inr (Or.inl rfl)|exact Or.inr (Or.inr rfl))(hd:(x ==("__debug__" : Str))=false:=by decide)
  (hcd:(x ==("__classdict__" : Str))=false:=by decide)
  (hbase:attributeBase (.Name x p1) "extend" X.env (eval (.Name x p1) X.env)=eval (.Name x p1) X.env:=by rfl)
  (hfew:((backTo cpos (starEach (e :: []) X.env)).all (λx=>!x.1) && (backToKw cpos (keywordEach [] X.env)).all (λx=>x.1.isSome)
   && decide ((e :: []).length+([]:List Keyword).length+(if ([]:List Keyword).isEmpty then 0 else 1)<30))=true:=by rfl)
  (hline:(apos.endLine == cpos.line)=true:=by rfl) (hst:starEach (e :: []) X.env=(false,eval e X.env)::starEach [] X.env:=by rfl) (hplain:(backTo cpos (starEach [] X.env)).any (·.1)=false:=by rfl)
  (hs:swapsWith (.Call (.Attribute (.Name x p1) "extend" apos) [e] [] cpos) none pos.line X.env=pure false:=by rfl):DS X (.Expr (.Call (.Attribute (.Name x p1) "extend" apos) [e] [] cpos) pos) (zpz i tf) :=
 DS.of (zjg (zmd PySem.F.plainAttrs_list PySem.F.slot_list_extend PySem.F.type_list_extend zk4 (x3 (i:=i) hN hv hd hcd) (xh he.pe wm hst) hbase hfew hline hst hplain) hs) λσ H H₀ σD Dn ok q=>by
  unfold zpz at q
  split at q
  ·next xs eo=>
   obtain⟨a,vs,e1,e2,r,n⟩:=ok.ownL eo;refine⟨.ref a,e1,.inl ⟨rfl,vs,SqL.of e2⟩,H₀,σD,_,ok,q,λb H1 zs ys s1 n1 eb r1 q1=>?_⟩;refine⟨a,b,vs,zs,rfl,rfl,s1 _ _ e2,eb,by rw[<-r.length,<-r1.length];exact q1.1,_,(ok.after s1).write eo e1 (s1 _ _ e2) ((r.same s1).append r1),s1.pers.trans (wn (s1 _ _ e2) rfl),q1.2⟩
  ·exact q.elim
end
section
variable (P:Program)(w:World)
end
section
variable {P:Program}{w:World}{H H':Hp}{h h':Heap}{a:Addr}{o:HO}
end
section
variable {P:Program}{w:World}{H:Hp}{h h':Heap}{x e:Addr}{o':HO}
end
section
variable {fs fs' ex ex':List Addr}{H H1 H2:Hp}{h h1 h2 h':Heap}{a x e:Addr}{o:HO}
end
section
variable {X:Cx}{pins:List (Addr×Obj)}{σ:List (Option V)}{H H':Hp}{s:Shared}{h':Heap}
end
section
variable {X:Cx}
variable {a b:Expr}{ta tb:TE}{pos:Pos}
variable {tA tB':TT}{rest:List Expr}
end
section
variable {X:Cx}{pins:List (Addr×Obj)}{σ:St}{H:Hp}{s:Shared}{a:Addr}{xs ys:List V}
end
section
variable {X:Cx}{pins:List (Addr×Obj)}{σ:St}{H:Hp}{s:Shared}{E:Value->Shared->Prop}
end
section
variable {X:Cx}{st:Stmt}{rest:List Stmt}{t u:TS}{e:Expr}{te:TE}{pos:Pos}
end
section
variable {X:Cx}{pos:Pos}
end
section
variable {X:Cx}{pos:Pos}
end
section
variable {X:Cx}{tg:Expr}
end
section
variable {X:Cx}{a b c:Expr}{ta tb tc:TE}{pos:Pos}
end
section
variable {X:Cx}{a b c:Expr}{ta tb tc:TE}{pos:Pos}
end
section
variable {prog:Program}{w:World}{A:Around}{E:Value->Shared->Prop}{s:Shared}{K:PySem.W.Frag}{x dx C f:Addr}{mA:Str->Option Value}{name:Str}{v:Value}
end
section
variable {P:Program}{w:World}{H H':Hp}{h h':Heap}{a C dx:Addr}{fs fs':List (Str×V)}
end
section
variable {X:Cx}{pins:List (Addr×Obj)}{σ:St}{H:Hp}{s:Shared}{a C dx:Addr}{fs:List (Str×V)}{f:Str}{v:V}{A:Around}{E:Value->Shared->Prop}
end
section
variable {X:Cx}{o e value:Expr}{f:Str}{pos pos' tpos:Pos}{ta tv:TE}
end
section
variable {X:Cx}{pins:List (Addr×Obj)}{σ:St}{H:Hp}{s:Shared}{A:Around}{E:Value->Shared->Prop}{Q:Value->Shared->Prop}{c:Value}{b:Bool}
end
section
variable {X:Cx}{e:Expr}{es:List Expr}{te:TE}{t:TA}{pos:Pos}
end
section
variable {X:Cx}{pins:List (Addr×Obj)}{σ:St}{H:Hp}{s s':Shared}
end
section
variable {X:Cx}{CX:CXT}{k:Nat}{f C:Addr}{fd:FuncData}{ps:List Str}{sp:Sp}{dvs:List V}{ds:List Value}{E:XK}{x m:Str}{p pos apos:Pos}{e o:Expr}{es:List Expr}{ta:TE}{t:TA}
end
section
variable {X:Cx}{CX:CXT}{k:Nat}{f C:Addr}{fd:FuncData}{ps ks:List Str}{sp:Sp}{E:XK}{x m:Str}{p pos apos kpos:Pos}{e o:Expr}{es:List Expr}{kws:List Keyword}{te ta:TE}{t tk:TA}{nm:Option Str}
variable {g:List Value->List Value->List Value}{gV:List V->List V->List V}
end
section
variable {X:Cx}{x:Str}{p pos:Pos}{e:Expr}{es:List Expr}{t:TA}{id T:String}{r:List V->Hp->VK->Prop}
end
section
variable {κ:Type}[DecidableEq κ]
def za8(kvs:List (κ×V))(k:κ):Option V:=(kvs.find? λkv=>decide (kv.1=k)).map (·.2)
def jm(kvs:List (κ×V))(k:κ)(v:V):List (κ×V) :=
 if (kvs.any λkv=>decide (kv.1=k))=true then kvs.map (λkv=>if kv.1=k then (kv.1,v) else kv) else kvs ++ [(k,v)]
def zrh(kvs:List (κ×V))(k:κ):List (κ×V):=kvs.filter λkv=>decide (kv.1≠k)
theorem zah{p:κ×V}{r:List (κ×V)}{k:κ}(e:p.1=k):za8 (p::r) k=some p.2:=by simp[za8,List.find?_cons,e]
theorem zai{p:κ×V}{r:List (κ×V)}{k:κ}(e:¬ p.1=k):za8 (p::r) k=za8 r k:=by simp[za8,List.find?_cons,e]
theorem zgm(k:κ):∀kvs:List (κ×V),(kvs.any λkv=>decide (kv.1=k))=(za8 kvs k).isSome
 |[]=>rfl
 |p::r=>by
  rw[List.any_cons]
  by_cases e:p.1=k
  ·simp only[zah e,decide_eq_true e,Bool.true_or,Option.isSome_some]
  ·rw[zai e,decide_eq_false e,Bool.false_or];exact zgm k r
theorem zbt(kvs:List (κ×V))(k:κ)(v:V):(jm kvs k v).length<=kvs.length+1:=by
 unfold jm
 split
 ·rw[List.length_map];omega
 ·rw[List.length_append,List.length_cons,List.length_nil];omega
theorem RelO.isSome_eq{o:Option V}{u:Option Value}(r:RelO o u):o.isSome=u.isSome:=by
 cases o with
 |none=>cases u with
  |none=>rfl
  |some _=>exact(show False from r).elim
 |some _=>cases u with
  |none=>exact(show False from r).elim
  |some _=>rfl
theorem RelO.getD{o:Option V}{u:Option Value}{d:V}{d':Value}(r:RelO o u)(rd:RelV d d'):RelV (o.getD d) (u.getD d'):=by
 cases o with
 |none=>cases u with
  |none=>exact rd
  |some _=>exact(show False from r).elim
 |some _=>cases u with
  |none=>exact(show False from r).elim
  |some _=>exact r
theorem KV.val{kvs:List (κ×V)}{vs:List (κ×Value)}(r:KV kvs vs)(k:κ):RelO (za8 kvs k) (valueAt vs k):=by
 unfold KV at r
 induction r with
 |nil=>exact True.intro
 |@cons p q ps qs h t ih=>
  obtain⟨h1,h2⟩:=h
  by_cases e:p.1=k
  ·have e':q.1=k:=h1.symm.trans e;have b:valueAt (q::qs) k=some q.2:=by simp[valueAt,List.find?_cons,e']
   rw[zah e,b];exact h2
  ·have e':¬ q.1=k:=λz=>e (h1.trans z);have b:valueAt (q::qs) k=valueAt qs k:=by simp[valueAt,List.find?_cons,e']
   rw[zai e,b];exact ih
theorem KV.any{kvs:List (κ×V)}{vs:List (κ×Value)}(r:KV kvs vs)(k:κ):(kvs.any λkv=>decide (kv.1=k))=vs.any λkv=>decide (kv.1=k):=by
 unfold KV at r
 induction r with
 |nil=>rfl
 |cons h t ih=>rw[List.any_cons,List.any_cons,ih,h.1]
theorem KV.repl{kvs:List (κ×V)}{vs:List (κ×Value)}(r:KV kvs vs)(k:κ){y:V}{u:Value}(ry:RelV y u):
  KV (kvs.map λkv=>if kv.1=k then (kv.1,y) else kv) (vs.map λkv=>if kv.1=k then (kv.1,u) else kv):=by
 unfold KV at r ⊢
 induction r with
 |nil=>exact .nil
 |@cons p q ps qs h t ih=>
  rw[List.map_cons,List.map_cons];refine .cons ?_ ih;obtain⟨h1,h2⟩:=h
  by_cases e:p.1=k
  ·rw[if_pos e,if_pos (h1.symm.trans e)];exact⟨h1,ry⟩
  ·rw[if_neg e,if_neg (λz=>e (h1.trans z))];exact⟨h1,h2⟩
theorem KV.put{kvs:List (κ×V)}{vs:List (κ×Value)}(r:KV kvs vs)(k:κ){y:V}{u:Value}(ry:RelV y u):KV (jm kvs k y) (stored vs k u):=by
 unfold jm stored;rw[r.any k]
 by_cases e:(vs.any λkv=>decide (kv.1=k))=true
 ·rw[if_pos e,if_pos e];exact r.repl k ry
 ·rw[if_neg e,if_neg e];exact Paired.snoc r ⟨rfl,ry⟩
theorem KV.drop{kvs:List (κ×V)}{vs:List (κ×Value)}(r:KV kvs vs)(k:κ):KV (zrh kvs k) (without vs k):=by
 unfold KV at r ⊢;unfold zrh without
 induction r with
 |nil=>exact .nil
 |@cons p q ps qs h t ih=>
  obtain⟨h1,h2⟩:=h;rw[List.filter_cons,List.filter_cons]
  by_cases e:p.1=k
  ·have a:¬ decide (p.1≠k)=true:=by simp[e]
   have b:¬ decide (q.1≠k)=true:=by simp[h1.symm.trans e]
   rw[if_neg a,if_neg b];exact ih
  ·have e':¬ q.1=k:=λz=>e (h1.trans z);have a:decide (p.1≠k)=true:=by simp[e]
   have b:decide (q.1≠k)=true:=by simp[e']
   rw[if_pos a,if_pos b];exact .cons ⟨h1,h2⟩ ih
theorem KV.length{kvs:List (κ×V)}{vs:List (κ×Value)}(r:KV kvs vs):kvs.length=vs.length:=Paired.length r
end
theorem zny{P:Program}{w:World}{k:Key}{u:Value}(r:RelV (kV k) u):(xg P w).is k u=true:=by
 cases k with
 |inl i=>obtain⟨t,e⟩:=(show ∃t,u=Value.int i t from r);subst e;exact zfy P w i t
 |inr x=>obtain⟨t,e⟩:=(show ∃t,u=Value.str x t from r);subst e;exact zfz P w x t
theorem zed{P:Program}{w:World}:∀{ks:List Key}{us:List Value},Vals (ks.map kV) us->ItemsAre (xg P w) ks us
 |[],_,r=>by rw[List.map_nil]at r;cases r;exact .nil
 |k::ks,_,r=>by
  rw[List.map_cons]at r
  cases r with
  |cons h t=>exact .cons (zny h) (zed t)
abbrev KT(H:Hp):List (List Key×V)->List (List Key×Addr×Value)->Prop:=Paired λp q=>p.1=q.1/\H q.2.1=some (.tup (p.1.map kV))/\RelV p.2 q.2.2
theorem KT.val{H:Hp}{kvs:List (List Key×V)}{xs:List (List Key×Addr×Value)}(r:KT H kvs xs)(k:List Key):RelO (za8 kvs k) ((atKey xs k).map (·.2)):=by
 induction r with
 |nil=>exact True.intro
 |@cons p q ps qs h t ih=>
  obtain⟨h1,_,h2⟩:=h
  by_cases e:p.1=k
  ·have e':q.1=k:=h1.symm.trans e;have b:atKey (q::qs) k=some q.2:=by simp[atKey,List.find?_cons,e']
   rw[zah e,b];exact h2
  ·have e':¬ q.1=k:=λz=>e (h1.trans z);have b:atKey (q::qs) k=atKey qs k:=by simp[atKey,List.find?_cons,e']
   rw[zai e,b];exact ih
theorem KT.repl{H:Hp}{kvs:List (List Key×V)}{xs:List (List Key×Addr×Value)}(r:KT H kvs xs)(k:List Key){y:V}{u:Value}(ry:RelV y u):
  KT H (kvs.map λkv=>if kv.1=k then (kv.1,y) else kv) (xs.map (putAt k u)):=by
 induction r with
 |nil=>exact .nil
 |@cons p q ps qs h t ih=>
  rw[List.map_cons,List.map_cons];refine .cons ?_ ih;obtain⟨h1,h2,h3⟩:=h;unfold putAt
  by_cases e:p.1=k
  ·rw[if_pos e,if_pos (h1.symm.trans e)];exact⟨h1,h2,ry⟩
  ·rw[if_neg e,if_neg (λz=>e (h1.trans z))];exact⟨h1,h2,h3⟩
theorem KT.put{H:Hp}{kvs:List (List Key×V)}{xs:List (List Key×Addr×Value)}(r:KT H kvs xs)(k:List Key){b:Addr}{y:V}{u:Value}(hb:H b=some (.tup (k.map kV)))(ry:RelV y u):
  KT H (jm kvs k y) (storedH xs k b u):=by
 have e:(kvs.any λkv=>decide (kv.1=k))=(atKey xs k).isSome:=by
  rw[zgm,(r.val k).isSome_eq,Option.isSome_map]
 unfold jm storedH;rw[e]
 by_cases q:(atKey xs k).isSome=true
 ·rw[if_pos q,if_pos q];exact r.repl k ry
 ·rw[if_neg q,if_neg q];exact Paired.snoc r ⟨rfl,hb,ry⟩
theorem KT.keeps{H H':Hp}{kvs:List (List Key×V)}{xs:List (List Key×Addr×Value)}(r:KT H kvs xs)(ht:∀b ys,H b=some (.tup ys)->H' b=some (.tup ys)):KT H' kvs xs :=
 Paired.mapP r λ_ _ z=>⟨z.1,ht _ _ z.2.1,z.2.2⟩
section
variable {P:Program}{w:World}{H:Hp}{h:Heap}{a:Addr}
theorem zri{u:HO}(ok:HOk P w H h)(e:Rd H a u):ObjOk P w H h a u:=e.ok ok
theorem znz{kvs:List (Key×V)}(ok:HOk P w H h)(e:Rd H a (.dK kvs)):kvs.length<=sizeLine/\(a == sysModules)=false/\∃vs,KV kvs vs/\h.DictOf (xg P w) a vs :=
 show ObjOk P w H h a (.dK kvs) from zri ok e
theorem zv2{kvs:List (Key×V)}(ok:HOk P w H h)(e:H a=some (.dK kvs)):kvs.length<=sizeLine/\(a == sysModules)=false/\∃vs,KV kvs vs/\h.DictOf (xg P w) a vs:=znz ok (.inl e)
theorem zin{ks:List Key}(ok:HOk P w H h)(e:H a=some (.tup (ks.map kV))):(tupleKind (xg P w)).is h ks a:=by
 obtain⟨_,its,r,o,h1,h2,⟨n,h3⟩,_⟩:=(show ObjOk P w H h a (.tup (ks.map kV)) from ok a _ e)
 exact⟨o,its.toArray,n,h1,h2,h3,by simpa using zed r⟩
theorem zn0{kvs:List (List Key×V)}(ok:HOk P w H h)(e:Rd H a (.dT kvs)):kvs.length<=sizeLine/\(a == sysModules)=false /\
  ∃xs,KT H kvs xs/\h.DictOfH (tupleKind (xg P w)) a xs:=by
 obtain⟨z,y,xs,r,o,es,ep,h1,h2,h3,h4,h5⟩:=(show ObjOk P w H h a (.dT kvs) from zri ok e)
 refine⟨z,y,xs,r,o,es,ep,h1,h2,h3,h4,λx hx=>?_,h5⟩;have all:∀{l:List (List Key×V)}{m:List (List Key×Addr×Value)},KT H l m->∀x∈m,(tupleKind (xg P w)).is h x.1 x.2.1:=by
  intro l m q
  induction q with
  |nil=>intro x hx;exact nomatch hx
  |@cons p q ps qs hq t ih=>
   intro x hx;rcases List.mem_cons.mp hx with e|hx
   ·subst e;exact zin ok (by rw[<-hq.1];exact hq.2.1)
   ·exact ih x hx
 exact all r x hx
theorem zv3{kvs:List (List Key×V)}(ok:HOk P w H h)(e:H a=some (.dT kvs)):kvs.length<=sizeLine/\(a == sysModules)=false /\
  ∃xs,KT H kvs xs/\h.DictOfH (tupleKind (xg P w)) a xs:=zn0 ok (.inl e)
end
def DGet(H:Hp)(a:Addr)(y:V)(r:Option V):Prop :=
 (∃kvs k,Rd H a (.dK kvs)/\y=kV k/\r=za8 kvs k)\/∃kvs k b,Rd H a (.dT kvs)/\y=.ref b/\H b=some (.tup (k.map kV))/\r=za8 kvs k
def DPut(H:Hp)(a:Addr)(y v:V)(H':Hp):Prop :=
 (∃kvs k,H a=some (.dK kvs)/\y=kV k/\kvs.length<sizeLine/\H'=upd H a (.dK (jm kvs k v))) \/
 ∃kvs k b,H a=some (.dT kvs)/\y=.ref b/\H b=some (.tup (k.map kV))/\kvs.length<sizeLine/\H'=upd H a (.dT (jm kvs k v))
theorem DGet.k{H:Hp}{a:Addr}{kvs:List (Key×V)}{k:Key}(e:H a=some (.dK kvs)):DGet H a (kV k) (za8 kvs k):=.inl ⟨kvs,k,.inl e,rfl,rfl⟩
theorem DGet.t{H:Hp}{a b:Addr}{kvs:List (List Key×V)}{k:List Key}(e:H a=some (.dT kvs))(eb:H b=some (.tup (k.map kV))):DGet H a (.ref b) (za8 kvs k):=.inr ⟨kvs,k,b,.inl e,rfl,eb,rfl⟩
theorem DPut.k{H:Hp}{a:Addr}{kvs:List (Key×V)}{k:Key}{v:V}(e:H a=some (.dK kvs))(hl:kvs.length<sizeLine):DPut H a (kV k) v (upd H a (.dK (jm kvs k v))):=.inl ⟨kvs,k,e,rfl,hl,rfl⟩
theorem DPut.t{H:Hp}{a b:Addr}{kvs:List (List Key×V)}{k:List Key}{v:V}(e:H a=some (.dT kvs))(eb:H b=some (.tup (k.map kV)))(hl:kvs.length<sizeLine):
  DPut H a (.ref b) v (upd H a (.dT (jm kvs k v))):=.inr ⟨kvs,k,b,e,rfl,eb,hl,rfl⟩
section
variable {X:Cx}{pins:List (Addr×Obj)}{σ:St}{H:Hp}{s:Shared}{a:Addr}{y v:V}{u r:Value}{o:Option V}{A:Around}{E:Value->Shared->Prop}
theorem Inv.big(I:Inv X pins σ H s):sysModules<s.heap.objs.size:=by
 have h:mainGlobals<s.heap.objs.size:=(I.mod.glob.keeps I.bk).lt;exact Nat.lt_trans (by decide) h
theorem zlo{Q:Value->Shared->Prop}(hu:A.units+1<cLine)(I:Inv X pins σ H s)(g:DGet H a y (some v))(ry:RelV y u)(h:∀w' s',Inv X pins σ H s'->RelV v w'->Q w' s'):
  wpAny (model X.prog X.w) A (getItem (.ref a) u) Q E s:=by
 rcases g with⟨kvs,k,e,ey,l⟩ |⟨kvs,k,b,e,ey,eb,l⟩
 ·subst ey;obtain⟨z,hd,vs,rel,dd⟩:=znz I.hok e;obtain⟨w',hw,rw'⟩:=RelO.some_of (v:=v) (o:=valueAt vs k) (by rw[l];exact rel.val k);exact wpAny_getItem_of (zny ry) dd.mapOf hw (h w' _ (I.tok _) rw')
 ·subst ey
  cases (show u=Value.ref b from ry);obtain⟨z,hd,xs,rel,dd⟩:=zn0 I.hok e;obtain⟨w',hw,rw'⟩:=RelO.some_of (v:=v) (o:=(atKey xs k).map (·.2)) (by rw[l];exact rel.val k);obtain⟨p,hp,hp2⟩:=Option.map_eq_some_iff.mp hw;refine wpAny_getItem_heap (tupleKind_room_in1 hu) (zin I.hok eb) dd hp ?_;rw[hp2];exact h w' _ (I.tok _) rw'
theorem zj2{h':Heap}{t':Nat}{ob:HO}(I:Inv X pins σ H s)(mu:Mut (H a))(hs:Heap.SameBut a s.heap h')(he:∃q,h'.get? a=some q)(new:ObjOk X.prog X.w (upd H a ob) h' a ob):
  Inv X pins σ (upd H a ob) { s with heap:=h',toks:=t' } :=
 I.write (x:=a) (e:=a) mu (.inl rfl) (λb q hb z=>(hs.2 b hb).trans z) he new
theorem ztq{P:Program}{w:World}{H':Hp}{h':Heap}{kvs:List (Key×V)}{vs:List (Key×Value)}(z:kvs.length<=sizeLine)(hd:(a == sysModules)=false)(rel:KV kvs vs)(dd:h'.DictOf (xg P w) a vs):
  ObjOk P w H' h' a (.dK kvs):=⟨z,hd,vs,rel,dd⟩
theorem zlp{H':Hp}{Q:Unit->Shared->Prop}(hu:A.units+1<cLine)(I:Inv X pins σ H s)(g:DPut H a y v H')(ry:RelV y u)(rv:RelV v r)(h:∀s',Inv X pins σ H' s'->Q () s'):
  wpAny (model X.prog X.w) A (setItem (.ref a) u r) Q E s:=by
 rcases g with⟨kvs,k,e,ey,l,eH⟩ |⟨kvs,k,b,e,ey,eb,l,eH⟩
 ·subst ey eH;obtain⟨z,hd,vs,rel,dd⟩:=zv2 I.hok e;have hz:vs.length<=sizeLine:=by rw[<-rel.length];exact z
  have hl:(jm kvs k v).length<=sizeLine:=by have:=zbt kvs k v;omega
  refine wpAny_setItem_pairs (hsz:=hz) (zny ry) dd λh' dd' hs=>h _ ?_;have he:∃q,h'.get? a=some q:=let ⟨q,_,_,hq,_⟩:=dd';⟨q,hq⟩;exact zj2 I (by rw[e];exact True.intro) hs he (ztq hl hd (rel.put k rv) dd')
 ·subst ey eH
  cases (show u=Value.ref b from ry);obtain⟨z,hd,xs,rel,dd⟩:=zv3 I.hok e;have hz:xs.length<=sizeLine:=by rw[<-Paired.length rel];exact z
  have hl:(jm kvs k v).length<=sizeLine:=by have:=zbt kvs k v;omega
  refine wpAny_setItem_heap (hsz:=hz) (tupleKind_room_in1 hu) (zin I.hok eb) dd λh' dd' hs=>h _ ?_;obtain⟨q,es,ep,hq,h2,h3,h4,_,h5⟩:=dd';refine zj2 I (by rw[e];exact True.intro) hs ⟨q,hq⟩ ⟨hl,hd,_,(rel.put k eb rv).keeps λc ys ec=>?_,q,es,ep,hq,h2,h3,h4,h5⟩;rw[zv (zf0 ec e (λz=>nomatch z))];exact ec
end
section
variable {X:Cx}{pins:List (Addr×Obj)}{σ:St}{H:Hp}{s:Shared}{a:Addr}{kvs:List (Key×V)}{k:Key}{u:Value}{A:Around}{E:Value->Shared->Prop}
end
def ztr(i:Expr):Prop:=∀ov iv,subscripted i false ov iv=operate [ov,iv] (getItem ov iv)
theorem zp0{prog:Program}{w:World}{A:Around}{E:Value->Shared->Prop}{s:Shared}{env:Env}{value slice:Expr}{pos:Pos}{T id:String}{Q:Value->Shared->Prop}
  (hl:typeLookup (.type T) "__getitem__" = pure (some (.builtin id))) (hs:ztr slice)
  (h:wpAny (model prog w) A (eval value env) (λo s₁=>wpAny (model prog w) A (eval slice env) (λi s₂=>s₂.TypeIs o T/\wpAny (model prog w) A (getItem o i) Q E s₂) E s₁) E s) :
  wpAny (model prog w) A (eval (.Subscript value slice pos) env) Q E s:=by
 refine Subscript_ (wpAny_mono h (λo s₁ h₁=>wpAny_mono h₁ (λi s₂ h₂=>?_) λ_ _ x=>x) λ_ _ x=>x);obtain⟨hT,h₂⟩:=h₂;unfold subscriptTail;refine wpAny_bind ?_;rw[getitemInPython_of_ne hT.not_modules];refine wpAny_bind (wpAny_specialOf hT hl ?_);have fin:wpAny (model prog w) A (subscripted slice false o i) (λr s₃=>wpAny (model prog w) A (letTemporaryGo value o r >>= λ_=>pure r) Q E s₃) E s₂:=by
  rw[hs o i];exact wpAny_operating (wpAny_mono h₂ (λr s₃ h₃=>wpAny_bind (wpAny_letTemporaryGo (wpAny_pure h₃))) λ_ _ x=>x)
 first
  |exact wpAny_pure (wpAny_bind fin)
  |exact wpAny_bind (wpAny_pure (wpAny_bind fin))
  |exact wpAny_bind fin
theorem zgn{X:Cx}{pins:List (Addr×Obj)}{σ:St}{H:Hp}{s:Shared}{a:Addr}{y:V}{o:Option V}(I:Inv X pins σ H s)(g:DGet H a y o):s.TypeIs (.ref a) "dict" := by
 rcases g with⟨kvs,k,e,_,_⟩ |⟨kvs,k,b,e,_,_,_⟩
 ·obtain⟨_,_,vs,_,dd⟩:=znz I.hok e;exact dd.typeIs
 ·obtain⟨_,_,xs,_,dd⟩:=zn0 I.hok e;exact dd.typeIs
def zv4(td ty:TE):TE:=λσ H Q=>td σ H λx H1=>ty σ H1 λy H2=>∃a v,x=.ref a/\DGet H2 a y (some v)/\Q v H2
def zv5(td ty tv:TE):TS:=λD σ H=>tv σ H λv H1=>td σ H1 λx H2=>ty σ H2 λy H3=>∃a H4,x=.ref a/\DPut H3 a y v H4/\D.nx σ H4
section
variable {X:Cx}{o i e value:Expr}{pos pos' tpos:Pos}{td ty tv:TE}
theorem zp1(hu:X.A.units+1<cLine)(ho:PE X o td)(hi:PE X i ty)(hs:ztr i):PE X (.Subscript o i pos) (zv4 td ty):=by
 intro pins s σ H Q I h;refine zp0 PySem.F.slot_dict_getitem.lookup hs (thn (ho pins s σ H _ I h) λu s1 ⟨x,H1,I1,rx,q1⟩=>thn (hi pins s1 σ H1 _ I1 q1) λiv s2 ⟨y,H2,I2,ry,a,v,ex,g,q2⟩=>?_);subst ex;obtain rfl:u=Value.ref a:=rx;exact⟨zgn I2 g,zlo hu I2 g ry λw' s3 I3 rw'=>⟨v,H2,I3,rw',q2⟩⟩
theorem zp2(hu:X.A.units+1<cLine)(ho:PE X o td)(hi:PE X i ty)(hv:PE X value tv)(hs:swapsWith value (some (.Subscript o i pos')) pos.line X.env=pure false):
  PS X (.Assign [.Subscript o i pos'] value pos) (zv5 td ty tv):=by
 intro pins s σ H D I h;refine wpAny_Assign_Subscript (thn (hv pins s σ H _ I h) λr s1 ⟨v,H1,I1,rv,q1⟩=>thn (ho pins s1 σ H1 _ I1 q1) λu s2 ⟨x,H2,I2,rx,q2⟩=>thn (hi pins s2 σ H2 _ I2 q2) λiv s3 ⟨y,H3,I3,ry,a,H4,ex,g,q3⟩=>?_) hs;subst ex;obtain rfl:u=Value.ref a:=rx;exact zlp hu I3 g ry rv λs4 I4=>⟨σ,H4,I4,q3⟩
end
theorem zn1{P:Program}{w:World}{H:Hp}(h:Heap)(hb:sysModules<h.objs.size):ObjOk P w H (h.push { cls:=.type "dict",data:=.dict #[] }) h.objs.size (.dK []) :=
 ⟨Nat.zero_le _,beq_eq_false_iff_ne.mpr (Ne.symm (Nat.ne_of_lt hb)),[],.nil,Heap.DictOf.new h⟩
def zts:TE:=λ_ H Q=>∀p,H p=none->Q (.ref p) (upd H p (.dK []))
section
variable {X:Cx}{pos:Pos}
theorem zn2:PE X (.Dict [] [] pos) zts:=λpins s σ H Q I h=>
 wpAny_Dict_empty ⟨.ref s.heap.objs.size,_,I.laid (a:=s.heap.objs.size) (o:=.dK []) (t':=s.toks) (λ_ _ q=>Heap.get?_push_of_some _ q) (Nat.le_refl _) (zn1 s.heap I.big),rfl,h _ (I.hok.fresh (Nat.le_refl _))⟩
end
structure M1(X:Cx)(o:Expr)(m:Str)(apos:Pos)(e:Expr)(cpos:Pos):Prop where
 base:attributeBase o m X.env (eval o X.env)=eval o X.env
 few:((backTo cpos (starEach [e] X.env)).all (λx=>!x.1) && (backToKw cpos (keywordEach [] X.env)).all (λx=>x.1.isSome)
  && decide (([e]:List Expr).length+([]:List Keyword).length+(if ([]:List Keyword).isEmpty then 0 else 1)<30))=true
 line:(apos.endLine == cpos.line)=true
 trees:backTo cpos (starEach [e] X.env) = [(false,eval e X.env)]
structure M2(X:Cx)(o:Expr)(m:Str)(apos:Pos)(e f:Expr)(cpos:Pos):Prop where
 base:attributeBase o m X.env (eval o X.env)=eval o X.env
 few:((backTo cpos (starEach [e,f] X.env)).all (λx=>!x.1) && (backToKw cpos (keywordEach [] X.env)).all (λx=>x.1.isSome)
  && decide (([e,f]:List Expr).length+([]:List Keyword).length+(if ([]:List Keyword).isEmpty then 0 else 1)<30))=true
 line:(apos.endLine == cpos.line)=true
 trees:backTo cpos (starEach [e,f] X.env) = [(false,eval e X.env),(false,eval f X.env)]
section
variable {X:Cx}{pins:List (Addr×Obj)}{σ:St}{H:Hp}{s:Shared}{a:Addr}{y d:V}{u r:Value}{o:Option V}{A:Around}{E:Value->Shared->Prop}
end
section
variable {X:Cx}{o e f:Expr}{apos cpos:Pos}{td ty tx:TE}
end
section
variable {X:Cx}{pins:List (Addr×Obj)}{σ:St}{H:Hp}{s:Shared}{a:Addr}{kvs:List (Key×V)}{A:Around}{E:Value->Shared->Prop}
end
section
variable {X:Cx}{pins:List (Addr×Obj)}{σ:St}{H:Hp}{s:Shared}{a:Addr}{y:V}{u:Value}{A:Around}{E:Value->Shared->Prop}
end
end L2
namespace Att
open PySem PySem.W PySem.Calls PyProof.Rows
section
variable {prog:Program}{w:World}{A:Around}{E:Value->Shared->Prop}{s:Shared}{K:Frag}
end
end Att
namespace L2
open PySem PySem.Spec PyProof.Rows
section
variable {P:Program}{w:World}{K:PySem.W.Frag}{mg:Str->Option Value}{base:Heap}
end
section
variable {X:Cx}
end
section
variable {κ:Type}[DecidableEq κ]
end
def xr{κ:Type}[DecidableEq κ](ks:List (κ×D))(k:κ):Option D:=(ks.find? λkv=>decide (kv.1=k)).map (·.2)
def zaj{κ:Type}[DecidableEq κ](ks:List (κ×D))(k:κ)(d:D):List (κ×D):=if (ks.any λkv=>decide (kv.1=k))=true then ks.map (λkv=>if kv.1=k then (kv.1,d) else kv) else ks ++ [(k,d)]
section
variable {K:PySem.W.Frag}{H H':Hp}{κ:Type}[DecidableEq κ]
theorem RepKV.split{ks:List (κ×D)}{vs:List (κ×V)}{p:κ×D}(h:RepKV K H (p::ks) vs):∃v vs',vs=(p.1,v)::vs'/\Rep K H p.2 v/\RepKV K H ks vs':=by
 obtain⟨h1,h2⟩:=h
 cases vs with
 |nil=>cases h1
 |cons q vs=>
  obtain⟨k,v⟩:=q;rw[List.map_cons,List.map_cons,List.cons.injEq]at h1;rw[List.map_cons,List.map_cons]at h2
  cases h2 with
  |cons r t=>
   obtain⟨e,e2⟩:=h1;have e':p.1=k:=e;subst e';exact⟨v,vs,rfl,r,e2,t⟩
theorem RepKV.cons{ks:List (κ×D)}{vs:List (κ×V)}{k:κ}{d:D}{v:V}(r:Rep K H d v)(h:RepKV K H ks vs):RepKV K H ((k,d)::ks) ((k,v)::vs):=⟨by simp[h.1],.cons r h.2⟩
theorem RepKV.nil':RepKV (κ:=κ) K H [] []:=⟨rfl,.nil⟩
theorem RepKV.same{ks:List (κ×D)}{vs:List (κ×V)}(h:RepKV K H ks vs)(s:Same H H'):RepKV K H' ks vs:=⟨h.1,h.2.same s⟩
theorem RepKV.len{ks:List (κ×D)}{vs:List (κ×V)}(h:RepKV K H ks vs):ks.length=vs.length:=by
 have:=congrArg List.length h.1;simpa using this
theorem RepKV.get:∀{ks:List (κ×D)}{vs:List (κ×V)}{k:κ}{d:D},RepKV K H ks vs->xr ks k=some d->∃v,za8 vs k=some v/\Rep K H d v
 |[],_,_,_,_,e=>by cases e
 |p::ks,vs,k,d,h,e=>by
  obtain⟨v,vs',rfl,r,t⟩:=h.split
  by_cases c:p.1=k
  ·rw[zah (p:=(p.1,v)) c];have:xr (p::ks) k=some p.2:=by simp[xr,List.find?_cons,c]
   rw[this]at e
   cases e;exact⟨v,rfl,r⟩
  ·rw[zai (p:=(p.1,v)) c];have:xr (p::ks) k=xr ks k:=by simp[xr,List.find?_cons,c]
   rw[this]at e;exact RepKV.get t e
theorem RepKV.any:∀{ks:List (κ×D)}{vs:List (κ×V)} (k:κ),RepKV K H ks vs->(ks.any λkv=>decide (kv.1=k))=vs.any λkv=>decide (kv.1=k)
 |[],vs,k,h=>by
  cases vs with
  |nil=>rfl
  |cons q vs=>cases h.1
 |p::ks,vs,k,h=>by
  obtain⟨v,vs',rfl,r,t⟩:=h.split;rw[List.any_cons,List.any_cons,RepKV.any k t]
theorem RepKV.map:∀{ks:List (κ×D)}{vs:List (κ×V)}{k:κ}{d:D}{v:V},RepKV K H ks vs->Rep K H d v->RepKV K H (ks.map λkv=>if kv.1=k then (kv.1,d) else kv) (vs.map λkv=>if kv.1=k then (kv.1,v) else kv)
 |[],vs,k,d,v,h,_=>by
  cases vs with
  |nil=>exact RepKV.nil'
  |cons q vs=>cases h.1
 |p::ks,vs,k,d,v,h,rd=>by
  obtain⟨v',vs',rfl,r,t⟩:=h.split;rw[List.map_cons,List.map_cons];have ih:=RepKV.map (k:=k) t rd;obtain⟨pk,pd⟩:=p
  by_cases c:pk=k
  ·simp only[c,if_true];exact RepKV.cons rd ih
  ·simp only[c,if_false];exact RepKV.cons r ih
theorem RepKV.snoc:∀{ks:List (κ×D)}{vs:List (κ×V)}{k:κ}{d:D}{v:V},RepKV K H ks vs->Rep K H d v->RepKV K H (ks ++ [(k,d)]) (vs ++ [(k,v)])
 |[],vs,k,d,v,h,rd=>by
  cases vs with
  |nil=>exact RepKV.cons rd RepKV.nil'
  |cons q vs=>cases h.1
 |p::ks,vs,k,d,v,h,rd=>by
  obtain⟨v',vs',rfl,r,t⟩:=h.split;obtain⟨pk,pd⟩:=p;exact RepKV.cons r (RepKV.snoc t rd)
theorem RepKV.put{ks:List (κ×D)}{vs:List (κ×V)}{k:κ}{d:D}{v:V}(h:RepKV K H ks vs)(rd:Rep K H d v):RepKV K H (zaj ks k d) (jm vs k v):=by
 unfold zaj jm;rw[h.any k]
 split
 ·exact h.map rd
 ·exact h.snoc rd
end
section
variable {K:PySem.W.Frag}{H₀ H H':Hp}{σD:DSt}{σ:St}
theorem DOk.setOD{H1:Hp}(h:DOk K H₀ H1 σD σ)(s1:Same H1 H){a:Addr}{vs:List (Key×V)}{xs:List (Key×D)}(n:H1 a=none)(e:H a=some (.dK vs))(r:RepKV K H xs vs)(i:Nat):DOk K H₀ H (σD.set i (some (.own (.dct xs)))) (σ.set i (some (.ref a))):=by
 obtain⟨s,fp,sl,nd,fr⟩:=id h;have lv:∀b∈fp,b≠a:=λb hb z=>by
  obtain⟨u,e1,_⟩:=sl.live b hb;rw[z,n]at e1;cases e1
 obtain⟨s',fp',sl',_⟩:=id (h.after s1);have sl2:Slots K H₀ H σD σ fp:=sl.keep s1.pers (λh=>h.same s1) λb _ u e=>s1 b u e
 by_cases hi:i<σD.length
 ·obtain⟨g,g',e',sb⟩:=sl2.set (f:=[a]) (w:=some (.own (.dct xs))) (v:=some (.ref a)) (λt=>.own ⟨a,vs,rfl,rfl,e,r⟩ t) i hi;refine⟨s',_,e',?_,λb hb=>?_⟩
  ·have nd2:=sb.nodup nd;rw[List.nodup_append]at nd2 ⊢;refine⟨nd2.1,?_,λx hx y hy=>?_⟩
   ·rw[List.singleton_append,List.nodup_cons];exact⟨λz=>lv a (sb.subset (List.mem_append_right _ z)) rfl,nd2.2.1⟩
   ·rcases List.mem_append.mp hy with z|z
    ·rw[List.mem_singleton.mp z];exact lv x (sb.subset (List.mem_append_left _ hx))
    ·exact nd2.2.2 x hx y z
  ·rcases List.mem_append.mp hb with z|z
   ·exact fr b (sb.subset (List.mem_append_left _ z))
   ·rcases List.mem_append.mp z with z|z
    ·rw[List.mem_singleton.mp z]
     cases q:H₀ a with
     |none=>rfl
     |some u=>rw[s a u q]at n;cases n
    ·exact fr b (sb.subset (List.mem_append_right _ z))
 ·rw[List.set_eq_of_length_le (by omega),List.set_eq_of_length_le (by rw[<-sl2.length];omega)];exact⟨s',fp,sl2,nd,fr⟩
end
section
variable {X:Cx}{e:Expr}{te tk tv:DTE}{pos:Pos}
def zn3(i:Nat):DTS:=λDn σ=>Dn.nx (σ.set i (some (.own (.dct []))))
theorem zp3{i:Nat}{x:Str}{pos' p2:Pos}(hN:X.N.Nodup)(hi:X.N[i]?=some x)(hx:Loc X.env.scope x)(hs:swapsWith (.Dict [] [] p2) (some (.Name x pos')) pos.line X.env=pure false:=by rfl)(hf:X.fn x=true\/X.env.scope.names.lookup x=some .local:=by first|exact .inl rfl|exact .inr rfl|assumption):
  DS X (.Assign [.Name x pos'] (.Dict [] [] p2) pos) (zn3 i) :=
 DS.of (zca hN hi hx zn2 hs hf) λσ H H₀ σD Dn ok q=>λp hp=>⟨_,ok.setOD (yc hp _) hp zx RepKV.nil' i,(yc hp _).pers,q⟩
def zj3(i:Nat)(tk:DTE):DTE:=λσ Q=>match σ[i]? with
 |some (some (.own (.dct ks)))=>tk σ λk=>match k with
  |.int n=>∃d,xr ks (Sum.inl n)=some d/\Q d
  |.str n=>∃d,xr ks (Sum.inr n)=some d/\Q d
  |_=>False
 |some (some (.vd ks))=>tk σ λk=>match k with
  |.int n=>∃d,xr ks (Sum.inl n)=some d/\Q d
  |.str n=>∃d,xr ks (Sum.inr n)=some d/\Q d
  |_=>False
 |_=>False
theorem zp4(i:Nat){x:Str}{k:Expr}{p1:Pos}{m:Nat}(hr:Room m X.A)(hk:DE X k tk)(hN:X.N[i]?=some x:=by rfl)(hvis:Vis X.env.scope x:=by first|exact Or.inl rfl|exact Or.inr (Or.inl rfl)|exact Or.inr (Or.inr rfl))(hd:(x ==("__debug__" : Str))=false:=by decide)(hcd:(x ==("__classdict__" : Str))=false:=by decide)(hs:ztr k:=by exact λ_ _=>rfl):
  DE X (.Subscript (.Name x p1) k pos) (zj3 i tk) :=
 DE.of (zp1 (by have:=hr.un;omega) (x3 (i:=i) hN hvis hd hcd) hk.pe hs) λσ H H₀ σD QD ok q=>by
  have key:∀{a:Addr}{vs:List (Key×V)}{ks:List (Key×D)},H a=some (.dK vs)->RepKV X.K H ks vs->∀(v2:V) (H2:Hp) (d2:D),Same H H2->Rep X.K H2 d2 v2->(match d2 with|.int n=>∃d,xr ks (Sum.inl n)=some d/\QD d|.str n=>∃d,xr ks (Sum.inr n)=some d/\QD d|_=>False) ->
    ∃a' v,V.ref a=.ref a'/\DGet H2 a' v2 (some v)/\∃d,Same H H2/\Rep X.K H2 d v/\QD d:=λ{a vs ks} e2 r v2 H2 d2 s2 r2 q2=>by
   cases d2 with
   |int n'=>
    cases r2;obtain⟨d,hg,q3⟩:=q2;obtain⟨v,hv,rv⟩:=(r.same s2).get hg;exact⟨a,v,rfl,hv ▸ DGet.k (k:=Sum.inl n') (s2 _ _ e2),d,s2,rv,q3⟩
   |str n'=>
    cases r2;obtain⟨d,hg,q3⟩:=q2;obtain⟨v,hv,rv⟩:=(r.same s2).get hg;exact⟨a,v,rfl,hv ▸ DGet.k (k:=Sum.inr n') (s2 _ _ e2),d,s2,rv,q3⟩
   |_=>exact q2.elim
  unfold zj3 at q
  split at q
  ·next ks eo=>
   obtain⟨a,vs,e1,e2,r,n⟩:=ok.ownD eo;exact⟨.ref a,e1,H₀,σD,_,ok,q,λv2 H2 d2 s2 r2 q2=>key e2 r v2 H2 d2 s2 r2 q2⟩
  ·next ks eo=>
   obtain⟨v,e1,a,vs,rfl,e2,r⟩:=ok.vd eo;exact⟨.ref a,e1,H₀,σD,_,ok,q,λv2 H2 d2 s2 r2 q2=>key e2 r v2 H2 d2 s2 r2 q2⟩
  ·exact q.elim
end
theorem zgo{ns:List Int}{its:List Value}(r:Vals (ns.map V.int) its)(k:Int):its.countP (zv1 k)=ns.count k:=by
 induction ns generalizing its with
 |nil=>cases r;rfl
 |cons n ns ih=>
  cases r with
  |cons h t=>
   obtain⟨tk,rfl⟩:=h;rw[List.countP_cons,ih t,List.count_cons];rfl
section
variable {X:Cx}
theorem zlq:MtR X "tuple.count" (λx vs H Q=>∃(l:Addr) (ns:List Int) (k:Int),x=.ref l/\vs = [.int k]/\SqT X.K H l (ns.map V.int)/\Q (.int ((ns.count k:Nat):Int)) H):=by
 intro pins s σ H x vs v us Q I rx rv h;obtain⟨l,ns,k,rfl,rfl,hR,q⟩:=h
 cases rx;obtain⟨u,rfl,ru⟩:=rv.one;obtain⟨t,rfl⟩:=ru;obtain⟨its,r,⟨⟨cls,dd,data,sl⟩,e,hc,⟨n,hd⟩,_⟩,z⟩:=I.tupleD hR;simp only at hc hd;subst hc hd;refine call_meets F.slot_tuple_count ⟨_,e,rfl⟩ F.entry_tuple_count (F.args_tuple_count_2 _ _) (PySem.SeqAt.tuple_countAt l its.toArray n dd sl (.int k t) (zv1 k)) ⟨e,λy hy=>?_,?_⟩
 ·obtain⟨i,t',rfl⟩:=zpy r y (by simpa using hy);exact(PySem.MeetsSeq.EqGives.int i k t' t).at _ _
 ·rw[List.toList_toArray,zgo r k];exact⟨.int ((ns.count k:Nat):Int),H,I.tok _,⟨_,rfl⟩,q⟩
variable {o e:Expr}{to te:DTE}{apos cpos:Pos}
def zn4(to te:DTE):DTE:=λσ Q=>to σ λd=>match d with
 |.tuple xs=>te σ λk=>match k with
  |.int i=>∃(ns:List Int),xs=ns.map PyData.int/\Q (.int ((ns.count i:Nat):Int))
  |_=>False
 |_=>False
theorem zlr(ho:DV X o to)(ha:DE X e te)(hbase:attributeBase o "count" X.env (eval o X.env)=eval o X.env:=by rfl)
  (hfew:((backTo cpos (starEach [e] X.env)).all (λx=>!x.1) && (backToKw cpos (keywordEach [] X.env)).all (λx=>x.1.isSome) && decide (([e]:List Expr).length+([]:List Keyword).length+(if ([]:List Keyword).isEmpty then 0 else 1)<30))=true:=by rfl)
  (hline:(apos.endLine == cpos.line)=true:=by rfl) (hs:starEach [e] X.env=(false,eval e X.env)::starEach [] X.env:=by rfl) (hplain:(backTo cpos (starEach [] X.env)).any (·.1)=false:=by rfl) :
  DE X (.Call (.Attribute o "count" apos) [e] [] cpos) (zn4 to te) :=
 DE.of (zmd F.plainAttrs_tuple F.slot_tuple_count F.type_tuple_count zlq ho.pe (xh ha.pe wm hs) hbase hfew hline hs hplain) λσ H H₀ σD QD ok q=>⟨H₀,σD,_,ok,q,λv H1 d s1 r1 q1=>by
  cases d with
  |tuple xs=>
   obtain⟨a,vs,rfl,hR,rp⟩:=r1.tuple;refine⟨.inr (.inl ⟨rfl,vs,hR⟩),H₀,σD,_,ok.after s1,q1,λv2 H2 d2 s2 r2 q2=>?_⟩
   cases d2 with
   |int i=>
    obtain⟨ns,rfl,q3⟩:=q2
    cases r2;have e:=zeb rp;subst e;exact⟨a,ns,i,rfl,rfl,s2.seqT hR,.int _,s1.trans s2,.int,q3⟩
   |_=>exact q2.elim
  |_=>exact q1.elim⟩
end
end L2
namespace SQ
open PySem PyProof.Rows
set_option autoImplicit false
section
variable {κ:KeyKind}
variable {prog:Program}{w:World}{A:Around}{E:Value->Shared->Prop}{s:Shared}{κ:KeyKind}{kd:SortKind}{a₀:Array Keyed}
theorem zgp{st:SortSt}{Q:Unit->SortSt->Prop}(L:za6 prog w A s κ kd)(h0:KeysOf κ a₀)(g:SG kd a₀ st)(hp:pendingOf st = #[])(h2:2<=a₀.size)(h64:a₀.size<64)(q:∀st',SG kd a₀ st'->SortedToK κ (arrOf st') a₀.size->Q () st'):wpS (model prog w) A E s sortRuns' Q st:=by
 rw[sortRuns'_eq];refine wpS_bind (wpS_get ?_);dsimp only;simp only[g.sz];have emr:minRun' a₀.size a₀.size 0=a₀.size:=by
  obtain⟨m,hm⟩:∃m,a₀.size=m+1:=⟨a₀.size-1,by omega⟩
  conv=>lhs;arg 1;rw[hm]
  rw[minRun'_succ,if_pos h64,Nat.add_zero]
 rw[emr];refine wpS_bind (wpS_mono (wpS_forRange (I:=λx c z=>∃lo,c=(none,lo)/\SG kd a₀ z/\Cov κ (arrOf z) 0 (pendingOf z).toList lo/\lo<=a₀.size/\x<=lo/\((lo=0/\pendingOf z = #[])\/(lo=a₀.size/\(pendingOf z).size<=1)))
  (Q:=λc z=>c=(none,a₀.size)/\SG kd a₀ z/\Cov κ (arrOf z) 0 (pendingOf z).toList a₀.size/\(pendingOf z).size<=1) (λx c z hx1 hx2 h=>?_) (λc z h=>?_) ⟨0,rfl,g,by rw[hp];rfl,by omega,by omega,.inl ⟨rfl,hp⟩⟩) (λc z h=>?_))
 ·obtain⟨lo,rfl,gz,cv,l1,l2,l3⟩:=h;dsimp only;refine zfe (λc=>?_) (λc=>?_)
  ·have e9:lo=a₀.size:=by omega
   subst e9;refine wpS_pure ⟨rfl,gz,cv,?_⟩;rcases l3 with⟨z,_⟩ |⟨_,z⟩
   ·omega
   ·exact z
  obtain⟨rfl,hpz⟩:lo=0/\pendingOf z = #[]:=by
   rcases l3 with z |⟨z,_⟩
   ·exact z
   ·omega
  refine wpS_bind (zih L h0 gz (by omega) (by omega) λk z1 g1 mv k1 k2 u=>?_);have hp1:pendingOf z1 = #[]:=by rw[mv.pend];exact hpz
  have cv1:Cov κ (arrOf z1) 0 (pendingOf z1).toList 0:=by rw[hp1];rfl
  dsimp only;refine zfe (λcm=>?_) (λcm=>?_)
  ·refine wpS_bind (wpS_lift (wpAny_rule ⟨rfl,?_⟩));refine wpS_bind (znv L h0 g1 (by omega) (by omega) u λz2 g2 mv2 u2=>?_);rw[if_neg (by decide)];have hp2:pendingOf z2 = #[]:=by rw[mv2.pend];exact hp1
   have cv2:Cov κ (arrOf z2) 0 (pendingOf z2).toList 0:=by rw[hp2];rfl
   refine wpS_bind (wpS_get ?_)
   cases hb:(pendingOf z2).back? with
   |none=>
    dsimp only;refine wpS_bind (wpS_modify (wpS_pure ⟨0+(min (a₀.size-0) a₀.size),rfl,⟨g2.perm,g2.kind,g2.fail⟩,?_,by omega,by omega,.inr ⟨by omega,?_⟩⟩))
    ·show Cov κ (arrOf z2) 0 ((pendingOf z2).push (0,min (a₀.size-0) a₀.size,0)).toList (0+(min (a₀.size-0) a₀.size));rw[Array.toList_push];exact cv2.push (by omega) u2
    ·show((pendingOf z2).push (0,min (a₀.size-0) a₀.size,0)).size<=1;rw[hp2];exact Nat.le_refl 1
   |some t=>rw[hp2]at hb;cases hb
  ·refine wpS_bind (wpS_get ?_)
   cases hb:(pendingOf z1).back? with
   |none=>
    dsimp only;refine wpS_bind (wpS_modify (wpS_pure ⟨0+(k),rfl,⟨g1.perm,g1.kind,g1.fail⟩,?_,by omega,by omega,.inr ⟨by omega,?_⟩⟩))
    ·show Cov κ (arrOf z1) 0 ((pendingOf z1).push (0,k,0)).toList (0+(k));rw[Array.toList_push];exact cv1.push k1 u
    ·show((pendingOf z1).push (0,k,0)).size<=1;rw[hp1];exact Nat.le_refl 1
   |some t=>rw[hp1]at hb;cases hb
 ·obtain⟨lo,rfl,gz,cv,l1,l2,l3⟩:=h;have e9:lo=a₀.size:=by omega
  subst e9;refine⟨rfl,gz,cv,?_⟩;rcases l3 with⟨z,_⟩ |⟨_,z⟩
  ·omega
  ·exact z
 ·obtain⟨rfl,gz,cv,hz1⟩:=h;dsimp only
  refine wpS_bind (wpS_mono (wpS_forRange (I:=λx c z=>c=(none,())/\SG kd a₀ z/\Cov κ (arrOf z) 0 (pendingOf z).toList a₀.size/\(pendingOf z).size<=1)
   (Q:=λc z=>c=(none,())/\SG kd a₀ z/\Cov κ (arrOf z) 0 (pendingOf z).toList a₀.size/\(pendingOf z).size<=1) (λx c z hx1 hx2 h=>?_) (λc z h=>h) ⟨rfl,gz,cv,hz1⟩) (λc z h=>?_))
  ·obtain⟨rfl,gz,cv,hz⟩:=h;refine wpS_bind (wpS_get ?_);exact zfe (λc=>wpS_pure ⟨rfl,gz,cv,c⟩) (λc=>absurd hz c)
  ·obtain⟨rfl,gz,cv,hz⟩:=h;refine wpS_pure (q z gz λi j a b=>?_)
   have:∀l:List (Nat×Nat×Nat),l.length<=1->Cov κ (arrOf z) 0 l a₀.size->Up κ (arrOf z) 0 a₀.size:=by
    intro l hl c
    match l,hl,c with
    |[],_,c=>have:0=a₀.size:=c;omega
    |[(b,n,p)],_,c=>
     obtain⟨_,_,u,e⟩:=c;have e':0+n=a₀.size:=e;rw[Nat.zero_add]at e';rw[<-e'];exact u
   exact this _ (by simpa using hz) cv i j (Nat.zero_le _) a (by omega)
end
section
variable {prog:Program}{w:World}{A:Around}{E:Value->Shared->Prop}{s:Shared}
theorem zbu{κ:KeyKind}{kd:SortKind}{a:Addr}{vs:List Value}{n:Nat}{P:Fin->Shared->Prop}(ho:s.heap.get? a=some (seqObj "list" vs.toArray n))(hz:vs.length<=sizeLine)(h64:vs.length<64)
  (L:∀h':Heap,(∀b o,b≠a->s.heap.get? b=some o->h'.get? b=some o)->za6 prog w A { s with heap:=h' } κ kd) (h0:KeysOf κ (pairsOf vs))
  (hkk:2<=vs.length->∀(h':Heap) (Q:SortKind->Shared->Prop),(∀b o,b≠a->s.heap.get? b=some o->h'.get? b=some o)->Q kd { s with heap:=h' }->wpAny (model prog w) A (keyKind' vs.toArray) Q E { s with heap:=h' })
  (h:∀out:Array Keyed,out.Perm (pairsOf vs)->SortedToK κ out (pairsOf vs).size->P (.done (.ret .none)) { s with heap:=sortedHeap s.heap a vs (out.map (·.2)) }) :
  wpAny (model prog w) A (Builtin.«list.sort» ⟨[.ref a],[]⟩) P E s:=by
 rw[list_sort_plain];have la:a<s.heap.objs.size:=Heap.lt_size ho;refine wpAny_bind (listItems_at ho rfl ?_);refine wpAny_bind (listUpdate_at ho rfl ?_ (by simpa using hz) (Nat.zero_le _));obtain⟨e1,g1⟩:∃e1,(s.heap.update a (Obj.mapSeq λ_=>#[])).get? a=some (seqObj "list" #[] e1):=⟨_,get?_update_seq ho (λ_=>#[])⟩
 refine wpAny_bind (seqEpoch_at g1 rfl ?_);refine wpAny_bind (wpAny_newTuple ?_ (by simpa using hz));refine wpAny_bind (wpAny_newList ?_ (Nat.zero_le _));refine wpAny_holding ?_;have g6:(((s.heap.update a (Obj.mapSeq λ_=>#[])).push (seqObj "tuple" vs.toArray 0)).push (seqObj "list" #[] 0)).get? a=some (seqObj "list" #[] e1):=Heap.get?_push_of_some _ (Heap.get?_push_of_some _ g1);have keep:∀b o,b≠a->s.heap.get? b=some o->(((s.heap.update a (Obj.mapSeq λ_=>#[])).push (seqObj "tuple" vs.toArray 0)).push (seqObj "list" #[] 0)).get? b=some o:=λb o nb e=>Heap.get?_push_of_some _ (Heap.get?_push_of_some _ (by rw[Heap.get?_update_ne _ _ _ _ nb];exact e));show wpAny (model prog w) A _ P E { s with heap:=((s.heap.update a (Obj.mapSeq λ_=>#[])).push (seqObj "tuple" vs.toArray 0)).push (seqObj "list" #[] 0) };dsimp only;have sz:vs.toArray.size=vs.length:=by simp
 by_cases c:vs.toArray.size<2
 ·rw[if_pos c,if_pos c];refine wpAny_bind (wpAny_pure ?_);rw[StateT.run_pure];refine wpAny_bind (wpAny_pure ?_);dsimp only;refine wpAny_bind (seqEpoch_at g6 rfl ?_);refine wpAny_bind (listUpdate_at g6 rfl ?_ (Nat.zero_le _) (by show(Array.map _ (pairsOf vs)).size<=_;rw[Array.size_map,pairsOf_size,sizeLine_eq];omega));simp only[bne_self_eq_false,Bool.false_eq_true,if_false];refine wpAny_pure (h (vs.toArray.zip vs.toArray) (Array.Perm.refl _) λi j hij hj=>?_);have:i=j:=by rw[pairsOf_size]at hj;omega
  subst this;exact KeyOrd.kle_refl _
 ·rw[if_neg c,if_neg c];refine wpAny_bind (hkk (by omega) _ _ keep ?_)
  refine wpAny_bind (wpAny_mono (zgp (κ:=κ) (kd:=kd) (a₀:=pairsOf vs) (st:=SortSt.mk' kd (vs.toArray.zip vs.toArray) #[] 7 none)
   (Q:=λ_ st'=>(arrOf st').Perm (pairsOf vs)/\failedOf st'=none/\SortedToK κ (arrOf st') (pairsOf vs).size) (L _ keep)
   h0 ⟨Array.Perm.refl _,rfl,rfl⟩ rfl (by rw[pairsOf_size];omega) (by rw[pairsOf_size];exact h64) λst' g' s'=>⟨g'.perm,g'.fail,s'⟩) ?_ λ_ _ e=>e)
  rintro ⟨⟨⟩,st'⟩ s' ⟨rfl,hp,hf,hs⟩;dsimp only;refine wpAny_bind (seqEpoch_at g6 rfl ?_);refine wpAny_bind (listUpdate_at g6 rfl ?_ (Nat.zero_le _) (by
   show(Array.map _ (arrOf st')).size<=_;rw[Array.size_map,hp.size_eq,pairsOf_size];omega))
  rw[hf];simp only[bne_self_eq_false,Bool.false_eq_true,if_false];exact wpAny_pure (h (arrOf st') hp hs)
theorem zee{κ:KeyKind}{kd:SortKind}{l:Addr}{T:String}{o:Obj}{vs:List Value}{n:Nat}{Q:Value->Shared->Prop}(hT:T = "list" \/ T = "tuple")(ho:s.heap.get? l=some o)(hc:o.cls=.type T)(hd:o.data=.seq vs.toArray n)(hz:vs.length<=sizeLine)(h64:vs.length<64)
  (L:∀(A':Around) (h':Heap),A'.units<=A.units+8->(∀b o,s.heap.get? b=some o->h'.get? b=some o)->za6 prog w A' { s with heap:=h' } κ kd) (h0:KeysOf κ (pairsOf vs))
  (hkk:2<=vs.length->∀(A':Around) (E':Value->Shared->Prop) (h':Heap) (Q:SortKind->Shared->Prop),(∀b o,s.heap.get? b=some o->h'.get? b=some o)->Q kd { s with heap:=h' }->wpAny (model prog w) A' (keyKind' vs.toArray) Q E' { s with heap:=h' })
  (h:∀(out:Array Keyed) (h':Heap) (r:Addr) (e:Nat),out.Perm (pairsOf vs)->SortedToK κ out (pairsOf vs).size->s.heap.objs.size<=r->h'.get? r=some (seqObj "list" (out.map (·.2)) e)->(∀b o,s.heap.get? b=some o->h'.get? b=some o)->Q (.ref r) { s with heap:=h' }) :
  wpAny (model prog w) A (call (.builtin "sorted") [.ref l]) Q E s:=by
 refine Calls.call_function_entry kind_sorted plain_sorted entry_sorted (args_sorted1 _) ?_;unfold Builtin.«sorted»;refine wpAny_bind (m:=checkCount "sorted" 1 1 _) (wpAny_pure ?_);refine wpAny_bind (zll hT ho hc hd (by simpa using hz) ?_);rw[List.toList_toArray];refine wpAny_bind (wpAny_newList ?_ hz);have es:((s.heap.push (seqObj "list" #[] 0)).update s.heap.objs.size (Obj.mapSeq (·++vs.toArray))).objs.size=s.heap.objs.size+1:=by rw[Heap.size_update,size_push']
 have gL:(((s.heap.push (seqObj "list" #[] 0)).update s.heap.objs.size (Obj.mapSeq (·++vs.toArray))).push (seqObj "list" vs.toArray 0)).get? (s.heap.objs.size+1)=some (seqObj "list" vs.toArray 0):=by rw[<-es];exact Heap.get?_push_size _ rfl
 have k2:∀b o,s.heap.get? b=some o->(((s.heap.push (seqObj "list" #[] 0)).update s.heap.objs.size (Obj.mapSeq (·++vs.toArray))).push (seqObj "list" vs.toArray 0)).get? b=some o:=λb o e=>
  Heap.get?_push_of_some _ (by rw[Heap.get?_update_ne _ _ _ _ (Nat.ne_of_lt (Heap.lt_size e))];exact Heap.get?_push_of_some _ e)
 have nb:∀b o,s.heap.get? b=some o->b≠s.heap.objs.size+1:=λb o e=>Nat.ne_of_lt (Nat.lt_succ_of_lt (Heap.lt_size e));show wpAny _ _ _ _ _ { s with heap:=((s.heap.push (seqObj "list" #[] 0)).update s.heap.objs.size (Obj.mapSeq (·++vs.toArray))).push (seqObj "list" vs.toArray 0) };rw[es];refine wpAny_bind (wpAny_holding (wpAny_call_entry slot_list_sort ⟨_,gL,rfl⟩ entry_list_sort (zbu (κ:=κ) (kd:=kd) gL hz h64 (λh' k'=>L _ h' (zpv A) λb o e=>k' b o (nb b o e) (k2 b o e)) h0 (λh2 h' Q k' q=>hkk h2 _ _ h' Q (λb o e=>k' b o (nb b o e) (k2 b o e)) q) λout p1 p2=>⟨_,rfl,?_⟩) (args_list_sort _)));refine wpAny_pure ⟨_,rfl,?_⟩;obtain⟨e,he⟩:=sortedAll_at s.heap vs (out.map (·.2));exact h out _ _ e p1 p2 (Nat.le_succ _) he λb o z=>sortedAll_old z
end
end SQ
namespace L2
open PySem PySem.Spec PyProof.Rows SQ
section
variable {X:Cx}
theorem zcs{pins:List (Addr×Obj)}{σ:St}{H:Hp}{s:Shared}{Q:List D->Prop}{xs:List D}{vs:List V}{us:List Value}{a:Addr}{T:String}{o:Obj}{n:Nat}(I:Inv X pins σ H s)(r:Reps X.K H xs vs)(rv:Vals vs us)(hT:T = "list" \/ T = "tuple")(ho:s.heap.get? a=some o)(hc:o.cls=.type T)(hd:o.data=.seq us.toArray n)(hz:vs.length<=sizeLine)(h64:vs.length<64)(q:zil xs Q):
  wpAny (model X.prog X.w) X.A (call (.builtin "sorted") [.ref a]) (zci X pins σ H Q) X.xe s:=by
 have zu:us.length<=sizeLine:=by rw[<-rv.length];exact hz
 have fin:∀(out:Array Keyed) (h':Heap) (p:Addr) (e:Nat) (ys:List D) (vs':List V),(out.map (·.2)).toList.Perm us->Vals vs' (out.map (·.2)).toList->Reps X.K H ys vs'->s.heap.objs.size<=p->h'.get? p=some (seqObj "list" (out.map (·.2)) e)->(∀b o,s.heap.get? b=some o->h'.get? b=some o)->Q ys->zci X pins σ H Q (.ref p) { s with heap:=h' }:=by
  intro out h' p e ys vs' pm rv' r' hp g k qy;have hn:=I.hok.fresh hp;have lv:vs'.length<=sizeLine:=by rw[rv'.length,pm.length_eq];exact zu
  exact⟨p,_,vs',ys,rfl,I.laid (t':=s.toks) (o:=.lst vs') k hp ⟨lv,(out.map (·.2)).toList,e,rv',g⟩,yc hn _,hn,zx,r'.same (yc hn _),qy⟩
 rcases q with⟨ns,rfl,q⟩ |⟨tss,rfl,hne,q⟩
 ·have e1:=Reps.of_ints r;subst e1;have hi:=xk rv
  have hk:∀v∈us,∃k,intK.keyOf v=some k:=λv hv=>by
   obtain⟨i,t,rfl⟩:=hi.all v hv;exact⟨i,rfl⟩
  refine zee (κ:=intK) (kd:=oneType') hT ho hc hd zu (by rw[<-rv.length];exact h64) (λA' h' _ _=>zpw) (qf hk) (λh2 A' E' h' Q' k q=>?_) λout h' p e p1 p2 hp g k=>?_
  ·cases us with
   |nil=>simp at h2
   |cons u us=>
    cases us with
    |nil=>simp at h2
    |cons u2 us=>rw[keyKind_ints hi];exact wpAny_pure q
  ·obtain⟨pm,ks,a2,pw⟩:=za7 p1 p2 hk;obtain⟨vs',ds',rv',r',pd⟩:=jg pm rv r;obtain⟨ms,rfl,pms⟩:=zag deI zpx pd;have e2:=Reps.of_ints r';subst e2
   have ek:ks=ms:=by
    have hm:=xk rv';clear pm pms pw pd r' rv';generalize (out.map (·.2)).toList=l at hm a2
    induction a2 generalizing ms with
    |nil=>cases hm;rfl
    |cons h t ih=>
     cases hm with
     |cons i t' h'=>
      simp only[intK,Option.some.injEq]at h;subst h;rw[ih _ h']
   subst ek;have:=zik pms (pw.imp λh=>by simpa[intK,KeyOrd.kle]using h);exact fin out h' p e _ _ pm rv' r' hp g k (by rw[this];exact q)
 ·have rf:=zaf I r rv
  have hk:∀v∈us,∃k,(zcr s.heap).keyOf v=some k:=λv hv=>by
   obtain⟨t,_,h⟩:=rf.mem hv;exact⟨t,jf h⟩
  refine zee (κ:=zcr s.heap) (kd:=tuples' true) hT ho hc hd zu (by rw[<-rv.length];exact h64) (λA' h' _ k=>zj0 k) (qf hk) (λh2 A' E' h' Q' k q=>zea (rf.imp λ_ _ h=>h.keep k) hne h2 q) λout h' p e p1 p2 hp g k=>?_;obtain⟨pm,ks,a2,pw⟩:=za7 p1 p2 hk;obtain⟨vs',ds',rv',r',pd⟩:=jg pm rv r;obtain⟨ss,rfl,pms⟩:=zag deT zim pd;have rf':=zaf I r' rv';have ek:ks=ss:=by
   clear pm pms pw r' rv' pd;generalize (out.map (·.2)).toList=l at rf' a2
   induction a2 generalizing ss with
   |nil=>cases rf';rfl
   |cons h t ih=>
    cases rf' with
    |cons h1 t1=>
     have:=jf h1;rw[show(zcr s.heap).keyOf _=jz s.heap _ from rfl,this]at h
     cases h;rw[ih _ t1]
  subst ek;have:=qg pms (pw.imp λh=>by simpa[zcr,KeyOrd.kle]using h);exact fin out h' p e _ _ pm rv' r' hp g k (by rw[this];exact q)
def zio:List D->(List D->Prop)->Prop
 |[.list xs],Q=>xs.length<64/\zil xs Q
 |[.tuple xs],Q=>xs.length<64/\zil xs Q
 |_,_=>False
theorem zj4:CallF X (.builtin "sorted") zio:=⟨λpins s σ H vs us ds Q I rv rd q=>by
 match ds,q,rd with
 |[.list xs],q,rd=>
  obtain⟨v,rfl,r⟩:=rd.one;obtain⟨a,vs,rfl,h,r⟩:=r.list.sq;obtain⟨u,rfl,r1⟩:=rv.one
  cases r1;obtain⟨its,rvs,pl,hz⟩:=I.list h;obtain⟨o,ho,hc,n,hd⟩:=pl.isList;exact zcs I r rvs (.inl rfl) ho hc hd hz (by rw[<-r.length];exact q.1) q.2
 |[.tuple xs],q,rd=>
  obtain⟨v,rfl,r⟩:=rd.one;obtain⟨a,vs,rfl,h,r⟩:=r.tuple;obtain⟨u,rfl,r1⟩:=rv.one
  cases r1;obtain⟨its,rvs,⟨o,ho,hc,n,hd⟩,hz⟩:=I.tuple h;exact zcs I r rvs (.inr rfl) ho hc hd hz (by rw[<-r.length];exact q.1) q.2⟩
end
end L2
namespace L2
open PySem PySem.Spec PyProof.Rows
theorem vc(n:Int)(j:Nat):y6 n (j+1)=.int n::y6 (n+1) j:=by
 unfold y6;rw[List.range_succ_eq_map,List.map_cons,List.map_map];refine List.cons_eq_cons.mpr ⟨by simp,List.map_congr_left λi _=>?_⟩;show PyData.int (n+((i+1:Nat):Int))=PyData.int (n+1+(i:Nat));congr 1;omega
end L2
namespace L2
open PySem PySem.Spec PyProof.Rows PySem.Builtin PySem.Builtin.Str
def tx(x:Str):List Nat:=x.cps.toList
def Dl(r:List Nat):Prop:=∀c t,r=c::t->c=44\/c=41\/c=93
theorem Dl.c{c:Nat}{r:List Nat}(h:c=44\/c=41\/c=93):Dl (c::r):=λa t e=>by
 rw[<-(List.cons.inj e).1];exact h
section
variable {xs ys:List D}{r r':List Nat}
end
end L2
namespace L2
open PySem PySem.Spec PyProof.Rows
section
variable {X:Cx}{e:Expr}{p pos:Pos}
end
section
variable {K:PySem.W.Frag}{H₀ H H':Hp}{σD:DSt}{σ:St}
theorem Nst.upd{b:Addr}{vs:List V}{ys:List D}(p:Pers H (upd H b (.lst vs)))(r:Reps K H ys vs):∀{xss:List (List D)}{as:List Addr}{k:Nat},as.Nodup->Nst K H xss as->as[k]?=some b->Nst K (upd H b (.lst vs)) (xss.set k ys) as
 |[],[],k,_,_,e=>by simp at e
 |xs::xss,c::as,0,nd,h,e=>by
  simp at e;subst e;rw[List.nodup_cons]at nd;exact⟨⟨vs,zx,r.mono p⟩,h.2.keep p λa ha u hu=>by rw[zv (λz=>nd.1 (by rw[<-z];exact ha))];exact hu⟩
 |xs::xss,c::as,k+1,nd,h,e=>by
  rw[List.nodup_cons]at nd;have e':as[k]?=some b:=by simpa using e
  obtain⟨⟨ws,e1,r1⟩,t⟩:=h;exact⟨⟨ws,by rw[zv (λz=>nd.1 (by rw[z];exact List.mem_of_getElem? e'))];exact e1,r1.mono p⟩,Nst.upd p r nd.2 t e'⟩
end
section
variable {X:Cx}{e e1 e2 e3:Expr}{pos:Pos}{te t3:DTE}{t1 t2:DTF}
theorem Nst.at:∀{K:PySem.W.Frag}{H:Hp}{xss:List (List D)}{as:List Addr}{k:Nat}{xs:List D},Nst K H xss as->xss[k]?=some xs->∃b vs,as[k]?=some b/\H b=some (.lst vs)/\Reps K H xs vs
 |_,_,_::_,b::_,0,_,h,e=>by
  simp at e;subst e;obtain⟨vs,e1,r⟩:=h.1;exact⟨b,vs,rfl,e1,r⟩
 |_,_,_::_,_::_,k+1,_,h,e=>by
  obtain⟨b,vs,h1,h2⟩:=Nst.at h.2 (k:=k) (by simpa using e);exact⟨b,vs,by simpa using h1,h2⟩
 |_,_,[],[],_,_,_,e=>by simp at e
variable {o:Expr}{to:DTE}{apos cpos:Pos}
end
structure Sl(fs:List Addr)(e:Addr)(h h':Heap):Prop where
 keep:∀b o,h.get? b=some o->b≠e->b∉fs->h'.get? b=some o
 slot:∀b o,h.get? b=some o->b≠e->∃sl,h'.get? b=some { o with slots:=sl }
section
variable {M:Model}{A:Around}{E:Value->Shared->Prop}{s:Shared}{base:Heap}{env:Env}{outer:List Env}{L e:Addr}{Q:Unit->Shared->Prop}
end
section
variable {fs fs':List Addr}{H H1:Hp}{h h1 h2:Heap}{a:Addr}{P:Program}{w:World}
theorem Un.sl(u:Un fs [] H H1 h h1)(S:Sl fs' a h1 h2)(hf:∀b o,b∈fs'->h.get? b=some o->b∈fs)(ha:h.get? a=none):Un fs [] H H1 h h2 where
 keep:=λb o e n hb hx=>S.keep b o (u.keep b o e n hb hx) (λz=>by rw[z,ha]at e;cases e) λz=>hb (hf b o z e)
 slot:=λb o e n hb hx=>by
  obtain⟨sl,e1⟩:=u.slot b o e n hb hx;obtain⟨sl',e2⟩:=S.slot b _ e1 λz=>by rw[z,ha]at e;cases e
  exact⟨sl',e2⟩
 free:=u.free
 there:=λb o e hx=>by
  obtain⟨o',e1⟩:=u.there b o e hx;obtain⟨sl,e2⟩:=S.slot b _ e1 λz=>by rw[z,ha]at e;cases e
  exact⟨_,e2⟩
 tups:=u.tups
 frzs:=u.frzs
 tbls:=u.tbls
theorem HOk.sl(hok:HOk P w H1 h1)(S:Sl fs' a h1 h2)(hf:∀b∈fs',H1 b=none)(ha:H1 a=none):HOk P w H1 h2:=λb o e=>by
 have ne:∀c u,H1 c=some u->c≠a/\c∉fs':=λc u q=>⟨λz=>(by rw[z,ha]at q;cases q),λz=>by rw[hf c z]at q;cases q⟩
 refine(hok b o e).stay (λc u hc q=>?_) (λ_ q=>q) λ_ _ q=>q;rcases hc with rfl|hc
 ·exact S.keep c u q (ne c o e).1 (ne c o e).2
 ·exact S.keep c u q (ne c _ hc).1 (ne c _ hc).2
end
theorem ObjOk.ex{P:Program}{w:World}{H:Hp}{h:Heap}{a:Addr}{o:HO}(x:ObjOk P w H h a o):∃u,h.get? a=some u:=by
 cases o with
 |lst xs=>obtain⟨_,_,_,_,e⟩:=x;exact⟨_,e⟩
 |tup xs=>obtain⟨_,_,_,o,e,_⟩:=x;exact⟨_,e⟩
 |dK kvs=>obtain⟨_,_,_,_,o,_,_,e,_⟩:=x;exact⟨_,e⟩
 |dT kvs=>obtain⟨_,_,_,_,o,_,_,e,_⟩:=x;exact⟨_,e⟩
 |set S n=>obtain⟨o,_,_,_,e,_⟩:=x;exact⟨_,e⟩
 |ins C dx fs=>obtain⟨_,_,_,e,_⟩:=x;exact⟨_,e⟩
 |own y=>exact x
 |xd fs=>obtain⟨_,⟨_,_,_,e,_⟩,_⟩:=x;exact⟨_,e⟩
 |rng lo hi=>obtain⟨_,_,_,e⟩:=x;exact⟨_,e⟩
 |frz ob u=>exact⟨_,x.1⟩
 |tbl ps=>obtain⟨_,_,_,_,e,_⟩:=x;exact⟨_,e⟩
 |met f y=>exact⟨_,x⟩
 |ext φ=>exact x.2.1
structure Room0(k:Nat)(A:Around):Prop where
 dp:A.depth+3 * k+5<recursionLimit
 un:A.units+16 * k+200<cLine
 gd:A.guards=some []
theorem Room0.mono{j k:Nat}{A:Around}(r:Room0 k A)(h:j<=k):Room0 j A:=⟨by have:=r.dp;omega,by have:=r.un;omega,r.gd⟩
section
variable {X:Cx}{pins:List (Addr×Obj)}{σ:St}{H:Hp}{s:Shared}{e:Value}
end
structure FnH(P:Program)(w:World)(K:PySem.W.Frag)(mg:Str->Option Value)(base:Heap)(k:Nat)(f:Addr)(fd:FuncData)(ps:List Str)(sp:Sp):Prop where
 len:∀vs H Q E,sp vs H Q E->vs.length=ps.length
 run:∀(A:Around) (outer:List Env) (s:Shared) (H:Hp) (args:Args) (us:List Value) (vs:List V) (Q:VK) (E:XK),Room0 k A->zhs P w K mg base A outer s H->BindsTo s fd args (ps.zip us)->Vals vs us->sp vs H Q E ->
  codeAny (model P w) A (.call (.ref f) args) (CR CX0 outer P w H s Q E) s
section
variable {P:Program}{w:World}{K:PySem.W.Frag}{mg:Str->Option Value}{base:Heap}
end
structure DSX(X:Cx)(st:Stmt)(t:DTS):Prop where
 run:∀(pins:List (Addr×Obj)) (s:Shared) (σ:St) (H:Hp) (σD:DSt) (Dn:wv),Inv X pins σ H s->DOk X.K X.H₀ H σD σ->t Dn σD->wpAny (model X.prog X.w) X.A (exec st X.env) (DSP X pins X.H₀ H Dn) X.xe s
structure DSXs(X:Cx)(st:List Stmt)(t:DTS):Prop where
 run:∀(pins:List (Addr×Obj)) (s:Shared) (σ:St) (H:Hp) (σD:DSt) (Dn:wv),Inv X pins σ H s->DOk X.K X.H₀ H σD σ->t Dn σD->wpAny (model X.prog X.w) X.A (execs st X.env) (DSP X pins X.H₀ H Dn) X.xe s
section
variable {X:Cx}{st:Stmt}{sts rest:List Stmt}{t u:DTS}{pos:Pos}
end
section
variable {P:Program}{w:World}{K:PySem.W.Frag}{mg:Str->Option Value}{base:Heap}{N:List Str}{qual:Str}{scope:Scope}{f:Addr}{cd:Value}{A:Around}{outer:List Env}{s:Shared}{H:Hp}{E:XK}
end
section
variable {P:Program}{w:World}{K:PySem.W.Frag}{mg:Str->Option Value}{base:Heap}
end
structure zx9(K:PySem.W.Frag)(CK C:Addr):Prop where
 sub:PySem.W.kitCls K (.ref C) (.ref CK)=some true
 bas:PySem.W.subIn K (.ref CK) (.type "BaseException")=some true
section
variable {X:Cx}{pins:List (Addr×Obj)}{σ:St}{H H₀:Hp}{s s':Shared}{E:XK}{e:Value}
end
section
variable {X:Cx}
end
end L2
namespace L2
open PySem PySem.Spec PyProof.Rows PySem.W
section
variable {prog:Program}{w:World}{A:Around}{E:Value->Shared->Prop}{s:Shared}{K:Frag}{x C:Addr}{ox:Obj}{od:Option Obj}
end
structure XIs(K:Frag)(C:Addr):Prop where
 ga:findIn K (.ref C) "__getattribute__" = some (some (.builtin "BaseException.__getattribute__"))
 hk:findIn K (.ref C) "__getattr__" = some none
 bas:mroIn K C (.type "BaseException")=some true
 dct:hasDictIn K C=true
 fnd:findIn K (.ref C) "__class__" = some (some (.builtin "object.__class__"))
 spc:specialIn K (.builtin "object.__class__") "__get__" = some (some (.builtin "getset_descriptor.__get__"))
 tks:takesIn K (.builtin "object.__class__")=some true
 mro:mroIn K C (.type "object")=some true
section
variable {X:Cx}{pins:List (Addr×Obj)}{σ:St}{H:Hp}{s:Shared}
def XDc(H:Hp)(od:Option Addr):Prop:=od=none\/∃d fs,od=some d/\H d=some (.xd fs)
theorem XDc.of{K:Frag}{x:Str×List (Str×Int)}{od:Option Addr}(h:(x.2 = []/\od=none)\/∃d,od=some d/\H d=some (.xd (x.2.map λp=>(p.1,V.int p.2)))):XDc H od:=by
 rcases h with h |⟨d,e,h⟩
 ·exact .inl h.2
 ·exact .inr ⟨d,_,e,h⟩
variable {e:Expr}{pos p:Pos}
variable {o:Expr}{to te:DTE}{apos cpos:Pos}
end
end L2
namespace L2
open PySem PySem.Spec PyProof.Rows PySem.W
section
variable {K:Frag}{C D:Addr}{t:Value}{b:Bool}
end
theorem zj5{t R:DTS}{Dn:wv}{σ:DSt}(P:DSt->Prop)(h:∀N:DSt->Prop,(∀σ',P σ'->N σ')->t { Dn with nx:=N } σ)(k:∀σ',P σ'->R Dn σ'):zpn t R Dn σ:=h _ k
def zn5:DOp:=λa b Q=>match a,b with
 |.bool i,.bool j=>Q (.bool (!decide (i=j)))
 |_,_=>False
section
variable {X:Cx}
theorem ztt:OpD X (compareOp .IsNot) zn5:=OpD.of zle λx y H a b Q ra rb q=>by
 cases a with
 |bool i=>
  cases b with
  |bool j=>
   have ra:=ra.rep (λxs z=>by cases z);have rb:=rb.rep (λxs z=>by cases z)
   cases ra
   cases rb;exact⟨i,j,rfl,rfl,.bool (!decide (i=j)),Same.refl _,.bl,q⟩
  |_=>exact q.elim
 |_=>exact q.elim
end
end L2
namespace L2
open PySem PySem.Spec PyProof.Rows
section
variable {X:Cx}
end
section
variable {K:PySem.W.Frag}{H₀ H:Hp}{σD:DSt}{σ:St}
theorem Slots.focus{fp:List Addr}(h:Slots K H₀ H σD σ fp){i:Nat}{o:O}(e:σD[i]?=some (some (.own o))):
  ∃v f g g',σ[i]?=some (some v)/\RepO K H o v f/\fp=g++(f++g')/\∀H' o' f',Pers H H'->(∀a,a∈g++g'->∀u,H a=some u->H' a=some u)->RepO K H' o' v f'->Slots K H₀ H' (clr (σD.set i (some (.own o')))) σ (g++(f'++g')):=by
 induction h generalizing i with
 |nil=>simp at e
 |none t ih=>
  cases i with
  |zero=>simp at e
  |succ i=>obtain⟨v,f,g,g',h1,h2,h3,h4⟩:=ih (i:=i) (by simpa using e);exact⟨v,f,g,g',by simpa using h1,h2,h3,λH' o' f' p k r=>.none (h4 H' o' f' p k r)⟩
 |val q t ih=>
  cases i with
  |zero=>simp at e
  |succ i=>obtain⟨v,f,g,g',h1,h2,h3,h4⟩:=ih (i:=i) (by simpa using e);exact⟨v,f,g,g',by simpa using h1,h2,h3,λH' o' f' p k r=>.val (q.mono p) (h4 H' o' f' p k r)⟩
 |vw q t ih=>
  cases i with
  |zero=>simp at e
  |succ i=>obtain⟨v,f,g,g',h1,h2,h3,h4⟩:=ih (i:=i) (by simpa using e);exact⟨v,f,g,g',by simpa using h1,h2,h3,λH' o' f' p k r=>.vw q (h4 H' o' f' p k r)⟩
 |vd q t ih=>
  cases i with
  |zero=>simp at e
  |succ i=>obtain⟨v,f,g,g',h1,h2,h3,h4⟩:=ih (i:=i) (by simpa using e);exact⟨v,f,g,g',by simpa using h1,h2,h3,λH' o' f' p k r=>.vd q (h4 H' o' f' p k r)⟩
 |exc q t ih=>
  cases i with
  |zero=>simp at e
  |succ i=>obtain⟨v,f,g,g',h1,h2,h3,h4⟩:=ih (i:=i) (by simpa using e);exact⟨v,f,g,g',by simpa using h1,h2,h3,λH' o' f' p k r=>.exc q (h4 H' o' f' p k r)⟩
 |scr q t ih=>
  cases i with
  |zero=>simp at e
  |succ i=>obtain⟨v,f,g,g',h1,h2,h3,h4⟩:=ih (i:=i) (by simpa using e);exact⟨v,f,g,g',by simpa using h1,h2,h3,λH' o' f' p k r=>.scr q (h4 H' o' f' p k r)⟩
 |pen q t ih=>
  cases i with
  |zero=>simp at e
  |succ i=>obtain⟨v,f,g,g',h1,h2,h3,h4⟩:=ih (i:=i) (by simpa using e);exact⟨v,f,g,g',by simpa using h1,h2,h3,λH' o' f' p k r=>.pen (p _ _ q rfl) (h4 H' o' f' p k r)⟩
 |tmp q t ih=>
  cases i with
  |zero=>simp at e
  |succ i=>obtain⟨v,f,g,g',h1,h2,h3,h4⟩:=ih (i:=i) (by simpa using e);exact⟨v,f,g,g',by simpa using h1,h2,h3,λH' o' f' p k r=>.none (h4 H' o' f' p k r)⟩
 |@own o0 v0 f0 ws wvs fp' q t ih=>
  cases i with
  |zero=>
   simp at e;subst e;refine⟨v0,f0,[],fp',rfl,q,rfl,λH' o' f' p k r=>?_⟩;rw[List.nil_append];exact .own r (t.keepC p λa ha u hu=>k a ha u hu)
  |succ i=>
   obtain⟨v,f,g,g',h1,h2,h3,h4⟩:=ih (i:=i) (by simpa using e);refine⟨v,f,f0++g,g',by simpa using h1,h2,by rw[h3,List.append_assoc],λH' o' f' p k r=>?_⟩;rw[List.append_assoc];refine .own (q.keep p λa ha u hu=>k a ?_ u hu) (h4 H' o' f' p (λa ha u hu=>k a ?_ u hu) r)
   ·exact List.mem_append_left _ (List.mem_append_left _ ha)
   ·rcases List.mem_append.mp ha with z|z
    ·exact List.mem_append_left _ (List.mem_append_right _ z)
    ·exact List.mem_append_right _ z
theorem DOk.focus(h:DOk K H₀ H σD σ){i:Nat}{o:O}(e:σD[i]?=some (some (.own o))):
  ∃v f,σ[i]?=some (some v)/\RepO K H o v f/\f.Nodup/\(∀a∈f,H₀ a=none)/\∀H' o' f',(∀a u,a∉f->H a=some u->H' a=some u)->f'.Nodup->(∀a∈f',a∈f\/H a=none)->RepO K H' o' v f' ->
   DOk K H₀ H' (clr (σD.set i (some (.own o')))) σ/\Pers H H':=by
 obtain⟨s,fp,sl,nd,fr⟩:=h;obtain⟨v,f,g,g',h1,h2,rfl,h4⟩:=sl.focus e;have nd':=nd;rw[List.nodup_append,List.nodup_append]at nd';obtain⟨ng,⟨nf,ng',dfg'⟩,dg⟩:=nd';have inf:∀a∈f,a∈g++(f++g'):=λa ha=>List.mem_append_right _ (List.mem_append_left _ ha);refine⟨v,f,h1,h2,nf,λa ha=>fr a (inf a ha),λH' o' f' k nf' hf' r=>?_⟩;have pr:Pers H H':=λa u ha hp=>k a u (λz=>by obtain⟨w,e1,e2⟩:=h2.live a z;rw[ha]at e1;cases e1;rw[e2]at hp;cases hp) ha;have off:∀a,a∈g++g'->a∉f:=λa ha z=>by
  rcases List.mem_append.mp ha with y|y
  ·exact dg a y a (List.mem_append_left _ z) rfl
  ·exact dfg' a z a y rfl
 have lv:∀a,a∈g++g'->H a≠none:=λa ha z=>by
  obtain⟨w,e1,_⟩:=sl.live a (by rcases List.mem_append.mp ha with y|y;exact List.mem_append_left _ y;exact List.mem_append_right _ (List.mem_append_right _ y));rw[z]at e1
  cases e1
 refine⟨⟨λa u ha=>k a u (λz=>by rw[fr a (inf a z)]at ha;cases ha) (s a u ha),_,h4 H' o' f' pr (λa ha u hu=>k a u (off a ha) hu) r,?_,λa ha=>?_⟩,pr⟩
 ·have nq:∀x∈g++g',∀y∈f',x≠y:=λx hx y hy z=>by
   subst z;rcases hf' x hy with q|q
   ·exact off x hx q
   ·exact lv x hx q
  rw[List.nodup_append,List.nodup_append];refine⟨ng,⟨nf',ng',λx hx y hy z=>nq y (List.mem_append_right _ hy) x hx z.symm⟩,λx hx y hy=>?_⟩;rcases List.mem_append.mp hy with q|q
  ·exact nq x (List.mem_append_left _ hx) y q
  ·exact dg x hx y (List.mem_append_right _ q)
 ·rcases List.mem_append.mp ha with q|q
  ·exact fr a (List.mem_append_left _ q)
  ·rcases List.mem_append.mp q with q|q
   ·rcases hf' a q with z|z
    ·exact fr a (inf a z)
    ·cases y:H₀ a with
     |none=>rfl
     |some u=>rw[s a u y]at z;cases z
   ·exact fr a (List.mem_append_right _ (List.mem_append_right _ q))
def O.bare:O->O
 |.anc _ o=>o.bare
 |o=>o
def O.with:O->O->O
 |.anc a o,o'=>.anc a (o.with o')
 |_,o'=>o'
theorem RepO.bare{o:O}{v:V}{f:List Addr}(h:RepO K H o v f):RepO K H o.bare v f:=by
 induction o with
 |anc a o ih=>exact ih h.2
 |_=>exact h
theorem RepO.ref{o:O}{v:V}{f:List Addr}(h:RepO K H o v f):∃a,v=.ref a:=by
 induction o with
 |anc a o ih=>exact⟨a,h.1⟩
 |lst xs=>obtain⟨a,_,e,_⟩:=h;exact⟨a,e⟩
 |dct xs=>obtain⟨a,_,e,_⟩:=h;exact⟨a,e⟩
 |nst xs ds=>obtain⟨a,_,_,e,_⟩:=h;exact⟨a,e⟩
 |ins c fs=>obtain⟨a,_,_,_,e,_⟩:=h;exact⟨a,e⟩
 |mix ms=>obtain⟨a,_,_,e,_⟩:=h;exact⟨a,e⟩
 |tk ks=>obtain⟨a,e,_⟩:=h;exact⟨a,e⟩
 |dcT ks=>obtain⟨a,_,e,_⟩:=h;exact⟨a,e⟩
 |fzT ks=>obtain⟨a,_,_,e,_⟩:=h;exact⟨a,e⟩
 |insL c fss=>obtain⟨a,_,e,_⟩:=h;exact⟨a,e⟩
theorem RepO.with{H':Hp}{o o':O}{v:V}{f f':List Addr}(h:RepO K H o v f)(h':RepO K H' o' v f'):RepO K H' (o.with o') v f':=by
 induction o with
 |anc a o ih=>exact⟨h.1,ih h.2⟩
 |_=>exact h'
end
def W.plain:W->Bool
 |.val _=>true
 |.pen=>true
 |_=>false
theorem RepWs.mono{K:PySem.W.Frag}{H H':Hp}(p:Pers H H'){ws:List W}{vs:List V}(h:∀w∈ws,w.plain=true)(q:RepWs K H ws vs):RepWs K H' ws vs:=by
 induction q with
 |nil=>exact .nil
 |@cons w _ _ _ r t ih=>
  refine .cons ?_ (ih λx hx=>h x (List.mem_cons_of_mem _ hx));have:=h w List.mem_cons_self
  cases w with
  |val d=>exact Rep.mono p r
  |pen=>obtain⟨a,rfl,r⟩:=r;exact⟨a,rfl,p _ _ r rfl⟩
  |_=>cases this
abbrev zct:=List W->O->List W->(D->O->Prop)->Prop
structure zef where
 nx:DSt->Prop
 rt:D->DSt->Prop
 bk:DSt->Prop:=λ_=>False
 ct:DSt->Prop:=λ_=>False
abbrev GTS:=zef->DSt->Prop
def zeg(K:PySem.W.Frag)(H₀ H:Hp)(Gn:zef):zhl where
 nx:=λσ' H'=>∃σD',DOk K H₀ H' σD' σ'/\Pers H H'/\Gn.nx σD'
 bk:=λσ' H'=>∃σD',DOk K H₀ H' σD' σ'/\Pers H H'/\Gn.bk σD'
 ct:=λσ' H'=>∃σD',DOk K H₀ H' σD' σ'/\Pers H H'/\Gn.ct σD'
 rt:=λv H'=>∃σ' σD' d,DOk K H₀ H' σD' σ'/\Rep K H' d v/\Gn.rt d σD'
structure DGS(X:Cx)(st:Stmt)(t:GTS):Prop where
 run:∀(pins:List (Addr×Obj)) (s:Shared) (σ:St) (H H₀:Hp) (σD:DSt) (Gn:zef),Inv X pins σ H s->DOk X.K H₀ H σD σ->t Gn σD->wpAny (model X.prog X.w) X.A (exec st X.env) (SP X pins (zeg X.K H₀ H Gn)) X.xe s
structure DGSs(X:Cx)(st:List Stmt)(t:GTS):Prop where
 run:∀(pins:List (Addr×Obj)) (s:Shared) (σ:St) (H H₀:Hp) (σD:DSt) (Gn:zef),Inv X pins σ H s->DOk X.K H₀ H σD σ->t Gn σD->wpAny (model X.prog X.w) X.A (execs st X.env) (SP X pins (zeg X.K H₀ H Gn)) X.xe s
section
variable {X:Cx}{st:Stmt}{sts rest:List Stmt}{t u:GTS}{e:Expr}{te:DTE}{pos:Pos}
theorem DGS.of{t':TS}(h:PS X st t')(k:∀σ H H₀ σD Gn,DOk X.K H₀ H σD σ->t Gn σD->t' (zeg X.K H₀ H Gn) σ H):DGS X st t :=
 ⟨λpins s σ H H₀ σD Gn I ok q=>h pins s σ H _ I (k σ H H₀ σD Gn ok q)⟩
def zxp(K:PySem.W.Frag)(t:GTS):TS:=λE σ H=>∃H₀ σD Gn,DOk K H₀ H σD σ/\t Gn σD/\(∀σ' H' σD',DOk K H₀ H' σD' σ'->Pers H H'->Gn.nx σD'->E.nx σ' H')/\(∀v H' σ' σD' d,DOk K H₀ H' σD' σ'->Rep K H' d v->Gn.rt d σD'->E.rt v H') /\
 (∀σ' H' σD',DOk K H₀ H' σD' σ'->Pers H H'->Gn.bk σD'->E.bk σ' H')/\∀σ' H' σD',DOk K H₀ H' σD' σ'->Pers H H'->Gn.ct σD'->E.ct σ' H'
theorem DGSs.ps(h:DGSs X sts t):PSs X sts (zxp X.K t):=by
 intro pins s σ H E I zz;obtain⟨H₀,σD,Gn,ok,q,k1,k2,k3,k4⟩:=zz;refine thn (h.run pins s σ H H₀ σD Gn I ok q) λf s' z=>?_
 cases f with
 |next=>obtain⟨a,b,e1,c,e2,e3,e4⟩:=z;exact⟨a,b,e1,k1 a b c e2 e3 e4⟩
 |brk=>obtain⟨a,b,e1,c,e2,e3,e4⟩:=z;exact⟨a,b,e1,k3 a b c e2 e3 e4⟩
 |cont=>obtain⟨a,b,e1,c,e2,e3,e4⟩:=z;exact⟨a,b,e1,k4 a b c e2 e3 e4⟩
 |ret u=>obtain⟨v,a,b,e1,e2,σ',σD',d,e3,e4,e5⟩:=z;exact⟨v,a,b,e1,e2,k2 v b σ' σD' d e3 e4 e5⟩
end
abbrev zcu:=DSt->(List W->List W->Prop)->Prop
structure DPG(X:Cx)(i:Nat)(es:List Expr)(t:zcu):Prop where
 run:∀(pos:Pos) (pins:List (Addr×Obj)) (s:Shared) (σ:St) (H H₀:Hp) (σD:DSt) (Q:List W->List W->Prop),Inv X pins σ H s->DOk X.K H₀ H σD σ->t σD Q ->
  wpAny (model X.prog X.w) X.A (spliced (backTo pos (starEach es X.env))) (λus s'=>∃vp v vq H' wp wq,Inv X pins σ H' s'/\Vals (vp++v::vq) us/\Same H H'/\σ[i]?=some (some v)/\RepWs X.K H' wp vp/\RepWs X.K H' wq vq/\Q wp wq) X.xe s
section
variable {X:Cx}{e:Expr}{es:List Expr}{k k' i j:Nat}{x:Str}{ps:List Str}{sp:zct}{t:zcu}{p pos:Pos}
end
section
variable {P:Program}{w:World}{K:PySem.W.Frag}{mg:Str->Option Value}{base:Heap}
end
section
variable {X:Cx}{e ie:Expr}{pos:Pos}{te ta:DTE}{t1 t2:DTF}
end
section
variable {X:Cx}{a b:Expr}{rest:List Expr}{pos:Pos}
end
section
variable {K:PySem.W.Frag}{H:Hp}
end
section
variable {X:Cx}{e:Expr}{es:List Expr}{te:DTE}{t:DTP}{pos:Pos}{c f m x:Str}{C g:Addr}{i j k k':Nat}{fd:FuncData}{ps:List Str}{sp:zct}
end
section
variable {X:Cx}{e:Expr}{pos:Pos}{i j:Nat}{sp:zct}{t:zcu}{a b:List Stmt}{ta tb:DTS}
end
section
variable {X:Cx}{tg e:Expr}{te:DTE}
end
section
variable {X:Cx}{e:Expr}{te:DTE}{pos p2:Pos}{lo hi:Option Expr}{tl th:DTO}
end
section
variable {X:Cx}
variable {o e:Expr}{to te:DTE}{apos cpos:Pos}{name:Str}{id:String}{gV:Str->Str->V}{gD:Str->Str->D}
end
open PySem.Builtin PySem.Builtin.Str
section
variable {X:Cx}
variable {o e:Expr}{to te:DTE}{apos cpos:Pos}
end
end L2
namespace L2
open PySem PySem.Spec PyProof.Rows
open PySem.Builtin PySem.Builtin.Str
section
variable {X:Cx}
end
end L2
namespace L2
open PySem PySem.Spec PyProof.Rows
section
variable {X:Cx}
end
section
variable {X:Cx}{e:Expr}{te:DTE}{pos tpos px py ps:Pos}{k i j:Nat}{x y:Str}
end
end L2
namespace L2
open PySem PySem.Spec PyProof.Rows PySem.NumText
structure zya(x:Str):Prop where
 dig:∀c∈x.cps.toList,48<=c/\c<=57
 ne:x.cps.toList ≠ []
 le:x.length<=10
 hd:x=Str.ofString "0" \/ x.cps.toList.head?≠some 48
end L2
namespace L2
open PySem PySem.Spec PyProof.Rows
section
variable {X:Cx}{e:Expr}{es:List Expr}
end
section
variable {X:Cx}{k v e f:Expr}{tk tv te tf:DTE}{apos cpos dpos:Pos}
end
section
variable {X:Cx}{k e f:Expr}{tk te tf:DTE}{p1 pos pos':Pos}
def zn6(i:Nat)(tk tv:DTE):DTS:=λDn σ=>tv σ λd=>match σ[i]? with
 |some (some (.own o))=>match o.bare with
  |.dct ks=>tk σ λk=>match k with
   |.int n=>ks.length<sizeLine/\Dn.nx (clr (σ.set i (some (.own (o.with (.dct (zaj ks (Sum.inl n) d)))))))
   |.str n=>ks.length<sizeLine/\Dn.nx (clr (σ.set i (some (.own (o.with (.dct (zaj ks (Sum.inr n) d)))))))
   |_=>False
  |_=>False
 |_=>False
theorem zp5(i:Nat){x:Str}{m:Nat}{spos:Pos}(hr:Room m X.A)(hk:DE X k tk)(hv:DE X e te)(hN:X.N[i]?=some x:=by rfl)(hvis:Vis X.env.scope x:=by first|exact Or.inl rfl|exact Or.inr (Or.inl rfl)|exact Or.inr (Or.inr rfl))(hd:(x ==("__debug__" : Str))=false:=by decide)(hcd:(x ==("__classdict__" : Str))=false:=by decide)
  (hs:swapsWith e (some (.Subscript (.Name x p1) k pos')) spos.line X.env=pure false:=by rfl) :
  DS X (.Assign [.Subscript (.Name x p1) k pos'] e spos) (zn6 i tk te) :=
 DS.of (zp2 (by have:=hr.un;omega) (x3 (i:=i) hN hvis hd hcd) hk.pe hv.pe hs) λσ H H₀ σD Dn ok q=>⟨H₀,σD,_,ok,q,λv H1 d s1 r1 q1=>by
  split at q1
  ·next o eo=>
   split at q1
   ·next ks eb=>
    obtain⟨v',f',e1,rO,_⟩:=(ok.after s1).focus eo;have r:=rO.bare;rw[eb]at r;obtain⟨a,vs,rfl,rfl,ea,rk⟩:=r;refine⟨.ref a,e1,H₀,σD,_,ok.after s1,q1,λv2 H2 d2 s2 r2 q2=>?_⟩;obtain⟨v3,f3,e3,rO3,nf,fr,put⟩:=((ok.after s1).after s2).focus eo;rw[e1]at e3
    cases e3;have r3:=rO3.bare;rw[eb]at r3;obtain⟨a3,vs3,e4,rfl,ea3,rk3⟩:=r3
    cases e4;have hl:∀{P:Prop},ks.length<sizeLine/\P->vs3.length<sizeLine:=λz=>by rw[<-rk3.len];exact z.1
    have fin:∀(kk:Key),DOk X.K H₀ (upd H2 a (.dK (jm vs3 kk v))) (clr (σD.set i (some (.own (o.with (.dct (zaj ks kk d))))))) σ/\Pers H2 (upd H2 a (.dK (jm vs3 kk v))):=λkk=>by
     refine put _ _ [a] (λc u hc hu=>by rw[zv (λz=>hc (by rw[z];exact List.mem_singleton.mpr rfl))];exact hu) (List.nodup_cons.mpr ⟨List.not_mem_nil,List.nodup_nil⟩) (λc hc=>.inl hc) (rO3.with (o':=.dct (zaj ks kk d)) ⟨a,_,rfl,rfl,zx,?_⟩);have:=rk3.put (k:=kk) (r1.same s2);exact⟨this.1,this.2.mono (wn ea3 rfl)⟩
    cases d2 with
    |int n'=>
     cases r2;exact⟨a,_,rfl,DPut.k (k:=Sum.inl n') ea3 (hl q2),_,(fin _).1,(s1.trans s2).pers.trans (fin _).2,q2.2⟩
    |str n'=>
     cases r2;exact⟨a,_,rfl,DPut.k (k:=Sum.inr n') ea3 (hl q2),_,(fin _).1,(s1.trans s2).pers.trans (fin _).2,q2.2⟩
    |_=>exact q2.elim
   ·exact q1.elim
  ·exact q1.elim⟩
end
def MxAt(K:PySem.W.Frag)(H:Hp)(bs:List Addr)(u:V):Mx->Prop
 |.v d=>Rep K H d u
 |.l xs=>∃b vs,u=.ref b/\b∈bs/\H b=some (.lst vs)/\Reps K H xs vs
section
variable {K:PySem.W.Frag}{H H':Hp}
theorem MxAt.more{bs cs:List Addr}{u:V}{m:Mx}(h:MxAt K H bs u m)(k:∀b∈bs,b∈cs):MxAt K H cs u m:=by
 cases m with
 |v d=>exact h
 |l xs=>obtain⟨b,vs,e1,e2,e3⟩:=h;exact⟨b,vs,e1,k b e2,e3⟩
theorem MxR.at:∀{ms:List Mx}{us:List V}{bs:List Addr}{k:Nat}{m:Mx},MxR K H ms us bs->ms[k]?=some m->∃u,us[k]?=some u/\MxAt K H bs u m
 |[],_,_,k,m,_,e=>by simp at e
 |.v d::ms,u::us,bs,0,m,h,e=>by cases e;exact⟨u,rfl,h.1⟩
 |.v d::ms,u::us,bs,k+1,m,h,e=>by
  obtain⟨w,e1,r⟩:=MxR.at (k:=k) h.2 (by simpa using e);exact⟨w,by simpa using e1,r⟩
 |.l xs::ms,u::us,b::bs,0,m,h,e=>by
  cases e;obtain⟨e0,⟨vs,e1,r⟩,_⟩:=h;exact⟨u,rfl,b,vs,e0,List.mem_cons_self,e1,r⟩
 |.l xs::ms,u::us,b::bs,k+1,m,h,e=>by
  obtain⟨w,e1,r⟩:=MxR.at (k:=k) h.2.2 (by simpa using e);exact⟨w,by simpa using e1,r.more λc hc=>List.mem_cons_of_mem _ hc⟩
theorem MxR.setV{d:D}{w:V}(r:Rep K H d w):∀{ms:List Mx}{us:List V}{bs:List Addr}{k:Nat}{d0:D},MxR K H ms us bs->ms[k]?=some (.v d0)->MxR K H (ms.set k (.v d)) (us.set k w) bs
 |[],_,_,k,d0,_,e=>by simp at e
 |.v _::ms,u::us,bs,0,d0,h,e=>⟨r,h.2⟩
 |.v _::ms,u::us,bs,k+1,d0,h,e=>⟨h.1,MxR.setV r h.2 (by simpa using e)⟩
 |.l xs::ms,u::us,b::bs,0,d0,h,e=>by cases e
 |.l xs::ms,u::us,b::bs,k+1,d0,h,e=>⟨h.1,h.2.1,MxR.setV r h.2.2 (by simpa using e)⟩
end
section
variable {X:Cx}{e ie:Expr}{te ti:DTE}{tf:DTF}{pos:Pos}
end
section
variable {X:Cx}{tg iter elt:Expr}{ifs:List Expr}{scope:Scope}{cl:List (Str×Addr)}{N' capt:List Str}{k:Nat}{js is:List Nat}{ti:DTF}{g:DTG}{tt:DTT}{tf:DTF}{pos:Pos}
end
end L2
namespace SV
open PySem
def Ris(xs:Array Nat):Prop:=xs.toList.Pairwise (· < ·)
theorem Ris.lt{xs:Array Nat}(h:Ris xs){i j:Nat}(hij:i<j)(hj:j<xs.size):xs.getD i 0<xs.getD j 0:=by
 have:=List.pairwise_iff_getElem.mp h i j (by simpa using Nat.lt_trans hij hj) (by simpa using hj) hij;simpa[Array.getD,hj,Nat.lt_trans hij hj]using this
structure Bel(xs:Array Nat)(j b:Nat):Prop where
 le:b<=xs.size
 lo:∀i,i<b->xs.getD i 0<j
 hi:∀i,b<=i->i<xs.size->j<=xs.getD i 0
theorem zgq{xs:Array Nat}{i:Nat}(h:i<xs.size)(d e:Nat):xs.getD i d=xs.getD i e:=by simp[Array.getD,h]
theorem ziq{xs:Array Nat}(h:Ris xs)(j:Nat):∀(fuel lo hi:Nat),hi-lo<=fuel->lo<=hi->hi<=xs.size->(∀i,i<lo->xs.getD i 0<j)->(∀i,hi<=i->i<xs.size->j<=xs.getD i 0)->Bel xs j (SetTable.below.go xs j fuel lo hi)
 |0,lo,hi,hf,hl,hs,h1,h2=>by
  have:lo=hi:=by omega
  subst this;exact⟨hs,h1,h2⟩
 |fuel+1,lo,hi,hf,hl,hs,h1,h2=>by
  unfold SetTable.below.go
  split
  ·next c=>
   dsimp only;have hm:(lo+hi) / 2<hi:=by omega
   have hm':(lo+hi) / 2<xs.size:=by omega
   by_cases c2:xs.getD ((lo+hi) / 2) j<j
   ·rw[if_pos c2];rw[zgq hm' j 0]at c2;refine ziq h j fuel ((lo+hi) / 2+1) hi (by omega) (by omega) hs (λi hi'=>?_) h2
    by_cases e:i=(lo+hi) / 2
    ·rw[e];exact c2
    ·exact Nat.lt_trans (h.lt (by omega) hm') c2
   ·rw[if_neg c2];rw[zgq hm' j 0]at c2;refine ziq h j fuel lo ((lo+hi) / 2) (by omega) (by omega) (by omega) h1 (λi hi' his=>?_)
    by_cases e:i=(lo+hi) / 2
    ·rw[e];omega
    ·have:=h.lt (i:=(lo+hi) / 2) (j:=i) (by omega) his;omega
  ·next c=>
   have:lo=hi:=by omega
   subst this;exact⟨hs,h1,h2⟩
theorem jh{xs:Array Nat}(h:Ris xs)(j:Nat):Bel xs j (SetTable.below xs j) :=
 ziq h j xs.size 0 xs.size (by omega) (Nat.zero_le _) (Nat.le_refl _) (λi hi=>absurd hi (Nat.not_lt_zero _)) λi h1 h2=>by omega
theorem mem_getD{xs:Array Nat}{x:Nat}(h:x∈xs.toList):∃i,i<xs.size/\xs.getD i 0=x:=by
 obtain⟨i,hi,e⟩:=List.getElem_of_mem h;have hi':i<xs.size:=by simpa using hi
 exact⟨i,hi',by simpa[Array.getD,hi']using e⟩
def Not(xs:Array Nat)(j:Nat):Prop:=xs[SetTable.below xs j]?≠some j
theorem Not.nmem{xs:Array Nat}(h:Ris xs){j:Nat}(n:Not xs j):j∉xs.toList:=λhm=>by
 obtain⟨i,hi,e⟩:=mem_getD hm;have b:=jh h j;have h1:¬ i<SetTable.below xs j:=λc=>by have:=b.lo i c;omega
 have h2:¬ SetTable.below xs j<i:=λc=>by
  have:=h.lt c hi;have:=b.hi _ (Nat.le_refl _) (by omega);omega
 have e2:i=SetTable.below xs j:=by omega
 subst e2;refine n ?_;simp[Array.getD,hi]at e;rw[Array.getElem?_eq_getElem hi,e]
theorem kb{α:Type}(xs:Array α)(p:Nat)(x:α)(hp:p<=xs.size):(SetTable.insertAt xs p x).toList=xs.toList.take p++x::xs.toList.drop p:=by
 unfold SetTable.insertAt;simp[List.take_of_length_le]
theorem zj6{xs:Array Nat}(h:Ris xs){j:Nat}(n:Not xs j):Ris (SetTable.insertAt xs (SetTable.below xs j) j):=by
 have b:=jh h j;have nm:=n.nmem h;unfold Ris;rw[kb _ _ _ b.le];have ht:∀x∈xs.toList.take (SetTable.below xs j),x<j:=λx hx=>by
  obtain⟨i,hi,e⟩:=List.getElem_of_mem hx;rw[List.length_take]at hi;rw[List.getElem_take]at e;have his:i<xs.size:=by simp at hi;omega
  have:=b.lo i (by omega);simp[Array.getD,his]at this;rw[<-e];simpa using this
 have hd:∀x∈xs.toList.drop (SetTable.below xs j),j<x:=λx hx=>by
  have hmem:=List.mem_of_mem_drop hx;obtain⟨i,hi,e⟩:=List.getElem_of_mem hx;rw[List.length_drop]at hi;rw[List.getElem_drop]at e;have his:SetTable.below xs j+i<xs.size:=by simp at hi;omega
  have h3:=b.hi (SetTable.below xs j+i) (by omega) his;simp[Array.getD,his]at h3;simp at e;have:j≠x:=λz=>nm (z ▸ hmem);omega
 refine List.pairwise_append.mpr ⟨h.sublist (List.take_sublist _ _),List.pairwise_cons.mpr ⟨hd,h.sublist (List.drop_sublist _ _)⟩,λa ha c hc=>?_⟩;have h1:=ht a ha;rcases List.mem_cons.mp hc with rfl|hc
 ·exact h1
 ·exact Nat.lt_trans h1 (hd c hc)
theorem zcv{t:SetTable}{j:Nat}(h:∀i,t.slot j ≠ .live i):Not t.place j:=λe=>by
 refine h (SetTable.below t.place j) ?_;unfold SetTable.slot;simp[e]
theorem za9{t:SetTable}{f:Nat->Int}{h:Int}:∀(fuel:Nat) (p:SetTable.Probe),(∀d,p.dummy=some d->Not t.place d)->∀j dm,SetTable.probe.go t f h fuel p=some (.empty j dm)->Not t.place j/\∀d,dm=some d->Not t.place d
 |0,p,hp,j,dm,e=>by cases e
 |fuel+1,p,hp,j,dm,e=>by
  unfold SetTable.probe.go at e
  split at e
  ·next c=>
   cases e;exact⟨zcv (λi z=>by rw[c]at z;cases z),hp⟩
  ·next c=>
   refine za9 fuel _ ?_ j dm e;intro d hd;have:p.j=d:=by
    unfold SetTable.advance at hd
    split at hd
    ·exact Option.some.inj hd
    ·exact Option.some.inj hd
   subst this;exact zcv λi z=>by rw[c]at z;cases z
  ·next i c=>
   split at e
   ·cases e
   ·refine za9 fuel _ ?_ j dm e;intro d hd;refine hp d ?_;unfold SetTable.advance at hd
    split at hd <;> exact hd
theorem zn7{t:SetTable}{h:Int}{j:Nat}{b:Bool}(e:t.freeSlot h=some (j,b)):Not t.place j:=by
 unfold SetTable.freeSlot at e
 split at e
 ·next j' dm c=>
  obtain⟨h1,h2⟩:=za9 _ _ (λd hd=>by cases hd) _ _ c;simp only[Option.some.injEq,Prod.mk.injEq]at e;obtain⟨e1,_⟩:=e
  cases dm with
  |none=>simp at e1;subst e1;exact h1
  |some d=>simp at e1;subst e1;exact h2 _ rfl
 ·cases e
theorem ji(t:SetTable)(n:Nat):Ris (t.standIn n).place:=by
 unfold Ris SetTable.standIn;simp only[Array.toList_range];exact List.pairwise_lt_range
theorem ztu{t:SetTable}(h:Ris t.place)(n:Nat):Ris (t.orStandIn n).place/\(t.orStandIn n).led=t.led:=by
 unfold SetTable.orStandIn
 split
 ·exact⟨h,rfl⟩
 ·exact⟨ji _ _,rfl⟩
theorem zp6{t:SetTable}(h:Ris t.place)(es:Array (Int×Value))(hh:Int)(x:Value):Ris (layNew t es hh x).2.1.place/\(layNew t es hh x).2.1.led=t.led:=by
 unfold layNew
 split
 ·next slot wd e=>
  have r:=zj6 h (zn7 e);exact ztu (t:=(t.put slot).1) r _
 ·exact⟨ji _ _,rfl⟩
theorem zgr{mask f m:Nat}{led pl:Bool}{hs:Array Int}{t':SetTable}{o:Array Nat}(e:SetTable.laid mask f m led pl hs=some (t',o)):Ris t'.place/\t'.led=led:=by
 unfold SetTable.laid at e
 cases ho:SetTable.layClean mask hs with
 |none=>rw[ho]at e;cases e
 |some owner=>
  rw[ho]at e;simp only[Option.bind_eq_bind,Option.bind_some,Option.pure_def,Option.some.injEq,Prod.mk.injEq]at e;obtain⟨e1,_⟩:=e;subst e1;refine⟨?_,rfl⟩;unfold Ris;simp only[];rw[List.map_filterMap];refine List.Pairwise.filterMap _ (λa a' haa b hb b' hb'=>?_) List.pairwise_lt_range;simp only[Option.map_eq_some_iff]at hb hb';obtain⟨_,⟨_,_,rfl⟩,rfl⟩:=hb;obtain⟨_,⟨_,_,rfl⟩,rfl⟩:=hb';exact haa
theorem zls{t:SetTable}(es:Array (Int×Value))(wanted:Nat):Ris (relayAll t es wanted).2.1.place/\(relayAll t es wanted).2.1.led=t.led:=by
 unfold relayAll
 split
 ·next t' o e=>
  dsimp only
  split
  ·exact zgr e
  ·exact⟨ji _ _,rfl⟩
 ·exact⟨ji _ _,rfl⟩
end SV
namespace SV
open PySem
def Tb(w:World)(t:SetTable):Prop:=Ris t.place/\t.led = !w.params.followText "set-order"
theorem Tb.lay{w:World}{t:SetTable}(h:Tb w t)(es:Array (Int×Value))(hh:Int)(x:Value):Tb w (layNew t es hh x).2.1:=by
 obtain⟨h1,h2⟩:=zp6 h.1 es hh x;exact⟨h1,h2.trans h.2⟩
theorem Tb.relay{w:World}{t:SetTable}(h:Tb w t)(es:Array (Int×Value))(n:Nat):Tb w (relayAll t es n).2.1:=by
 obtain⟨h1,h2⟩:=zls (t:=t) es n;exact⟨h1,h2.trans h.2⟩
end SV
namespace PySem
theorem jn:isSubtype (.type "tuple") (.type "frozenset")=pure false:=by rw[isSubtype_type];kernel_rfl
section
variable {prog:Program}{w:World}{K:Type}[DecidableEq K](knd:KeyKind prog w K)
def Heap.SetV(h:Heap)(a:Addr)(S:K->Bool)(n:Nat):Prop :=
 ∃o es ep t,h.get? a=some o/\o.ExactSet/\o.data=.set es ep t/\ElemsOf knd es.toList/\(∀k,S k=true↔∃e∈es.toList,knd.is k e.2=true)
  /\ es.size<scanBound/\t.fits es.size=true/\es.size=n/\SV.Tb w t
variable {knd}
variable {A:Around}{E:Value->Shared->Prop}{s:Shared}
theorem zir{h:Heap}{a:Addr}{S S':K->Bool}{n n':Nat}(hS:h.SetV knd a S n)(e:∀k,S k=S' k)(en:n=n'):h.SetV knd a S' n':=by
 have:S=S':=funext e;subst this;subst en;exact hS
theorem zak{h:Heap}{a:Addr}{o:Obj}{es:Array (Int×Value)}{ep:Nat}{t:SetTable}(ho:h.get? a=some o)(hex:o.ExactSet)(hd:o.data=.set es ep t)
  {es':Array (Int×Value)}{t':SetTable}{S':K->Bool} (hel:ElemsOf knd es'.toList) (hmem:∀k,S' k=true↔∃e∈es'.toList,knd.is k e.2=true) (hb:es'.size<scanBound) (hf:t'.fits es'.size=true) (hx:SV.Tb w t') :
  (h.update a (Obj.putSet es' t')).get? a=some { o with data:=.set es' (ep+1) t' }/\(h.update a (Obj.putSet es' t')).SetV knd a S' es'.size:=by
 have hg:(h.update a (Obj.putSet es' t')).get? a=some { o with data:=.set es' (ep+1) t' }:=by
  have:=Heap.get?_update_self (Obj.putSet es' t') ho (by rw[putSet_of es' t' hd];rfl);rw[putSet_of es' t' hd]at this;exact this
 exact⟨hg,_,es',ep+1,t',hg,hex,rfl,hel,hmem,hb,hf,rfl,hx⟩
theorem kc{g:Bool->Sem Unit}(hg:∀(b:Bool) (s₁:Shared) (Q':Unit->Shared->Prop),Q' () s₁->wpAny (model prog w) A (g b) Q' E s₁)
  {a:Addr}{o:Obj}{es:Array (Int×Value)}{ep:Nat}{t:SetTable} (ho:s.heap.get? a=some o) (hex:o.ExactSet) (hd:o.data=.set es ep t)
  {es1:Array (Int×Value)}{t2:SetTable}{S':K->Bool} (hel1:ElemsOf knd es1.toList) (hmem1:∀k',S' k'=true↔∃e∈es1.toList,knd.is k' e.2=true)
  (hb1:es1.size<scanBound) (hf2:t2.fits es1.size=true) (hx2:SV.Tb w t2) {wasDummy:Bool}{R:Option Bool->Shared->Prop}
  (h:∀h',Heap.SameBut a s.heap h'->h'.SetV knd a S' es1.size->R (some true) { s with heap:=h' }) :
  wpAny (model prog w) A (do
    storeSet a es1 t2
    if (!wasDummy && t2.tooFull)=true then do
      g (relayAll t2 es1 (SetTable.grown es1.size)).2.2
      storeSet a (relayAll t2 es1 (SetTable.grown es1.size)).1 (relayAll t2 es1 (SetTable.grown es1.size)).2.1
      pure (some true)
     else pure (some true)) R E s:=by
 refine wpAny_bind (wpAny_storeSet_of ho hd ?_ (fits_of_scanBound hb1));obtain⟨ho1,hS1⟩:=zak (knd:=knd) ho hex hd hel1 hmem1 hb1 hf2 hx2;have hsb1:=Heap.SameBut.update s.heap a (Obj.putSet es1 t2)
 split
 ·
  have hp:=relayAll_perm t2 es1 (SetTable.grown es1.size);have hfr:=relayAll_fits t2 es1 (SetTable.grown es1.size);have hxr:SV.Tb w (relayAll t2 es1 (SetTable.grown es1.size)).2.1:=hx2.relay es1 _;generalize hRl:relayAll t2 es1 (SetTable.grown es1.size)=Rl at hp hfr hxr ⊢;obtain⟨es2,t3,gave2⟩:=Rl;dsimp only at hp hfr hxr ⊢;have hel2:ElemsOf knd es2.toList:=hel1.perm hp;have hmem2:∀k',S' k'=true↔∃e∈es2.toList,knd.is k' e.2=true:=λk'=>(hmem1 k').trans ⟨λ⟨e,he,q⟩=>⟨e,hp.mem_iff.mpr he,q⟩,λ⟨e,he,q⟩=>⟨e,hp.mem_iff.mp he,q⟩⟩;have hsz:es2.size=es1.size:=by rw[<-Array.length_toList,hp.length_eq,Array.length_toList]
  have hb2:es2.size<scanBound:=by rw[hsz];exact hb1
  refine wpAny_bind (hg _ _ _ ?_);refine wpAny_bind (wpAny_storeSet_of ho1 rfl ?_ (fits_of_scanBound hb2));obtain⟨_,hS2⟩:=zak (knd:=knd) ho1 hex rfl hel2 hmem2 hb2 hfr hxr;rw[hsz]at hS2;exact wpAny_pure (h _ (hsb1.trans (Heap.SameBut.update _ a _)) hS2)
 ·exact wpAny_pure (h _ hsb1 hS1)
theorem qh{a:Addr}{S:K->Bool}{n:Nat}{k:K}{x:Value}{Q:Bool->Shared->Prop}(hkey:knd.is k x=true)(hsc:x.scannable=true)(hS:s.heap.SetV knd a S n)
  (hroom:n+1<scanBound)
  (h:∀h',Heap.SameBut a s.heap h'->h'.SetV knd a (λk'=>S k' || decide (k'=k)) (if S k then n else n+1)->Q (!S k) { s with heap:=h' }) :
  wpAny (model prog w) A (setAddHashed a x (knd.hash k)) Q E s:=by
 obtain⟨o,es,ep,t,ho,hex,hd,hel,hmem,hb,hf,hn,hx⟩:=hS;have hb1:es.size+1<scanBound:=by rw[hn];exact hroom
 unfold setAddHashed setAddHashedIn;refine wpAny_holding (wpAny_bind (wpAny_setState_of ho hd hf ?_));dsimp only;rw[byScan_of hsc hb hel];simp only[↓reduceIte];unfold setAddByScan;refine wpAny_bind ?_;refine wpAny_bind (wpAny_rule ?_);refine wpAny_bind (wpAny_setScan_of hkey ho hd hf hel ?_)
 cases hr:List.findIdx? (λe=>knd.is k e.2) es.toList with
 |some j=>
  dsimp only;obtain⟨hj,hpj,_⟩:=List.findIdx?_eq_some_iff_getElem.mp hr;have hSk:S k=true:=(hmem k).mpr ⟨es.toList[j],List.getElem_mem hj,hpj⟩;refine wpAny_pure (wpAny_pure ?_);have e:s = { s with heap:=s.heap }:=by cases s;rfl
  have:=h s.heap (Heap.SameBut.refl a s.heap) ⟨o,es,ep,t,ho,hex,hd,hel,λk'=>by
   rw[Bool.or_eq_true,decide_eq_true_eq,<-hmem k'];exact⟨λhk=>hk.elim id (λe=>e ▸ hSk),.inl⟩,hb,hf,by rw[hSk];exact hn,hx⟩
  rw[hSk]at this;rw[e];exact this
 |none=>
  dsimp only;have hSk:S k=false:=by
   cases hk:S k with
   |false=>rfl
   |true=>obtain⟨e,he,hp⟩:=(hmem k).mp hk;have:=List.findIdx?_eq_none_iff.mp hr e he;rw[hp]at this;exact Bool.noConfusion this
  have hgw:∀(b:Bool) {s₁:Shared}{Q':Unit->Shared->Prop},Q' () s₁->wpAny (model prog w) A (match b with|true=>rule "set.scan.the-table-gave-way" |false=>pure ()) Q' E s₁ :=
   λb s₁ Q' hq=>by cases b <;> first|exact wpAny_pure hq|exact wpAny_rule hq
  have hperm:=layNew_perm t es (knd.hash k) x;have hfits:=layNew_fits t es (knd.hash k) x;have hxl:SV.Tb w (layNew t es (knd.hash k) x).2.1:=hx.lay es _ x;generalize hL:layNew t es (knd.hash k) x=L at hperm hfits hxl ⊢;obtain⟨es1,t1,wasDummy,gave⟩:=L;dsimp only at hperm hfits hxl ⊢;rw[Array.toList_push]at hperm;have hel1:ElemsOf knd es1.toList:=(hel.push hkey hsc).perm hperm;have hmem1:∀k',(S k' || decide (k'=k))=true↔∃e∈es1.toList,knd.is k' e.2=true:=mem_push_iff hkey hmem hperm;have hb1':es1.size<scanBound:=by rw[<-Array.length_toList,hperm.length_eq,List.length_append,Array.length_toList];simpa using hb1
  refine wpAny_bind (hgw _ ?_);have hsz1:es1.size=n+1:=by rw[<-Array.length_toList,hperm.length_eq,List.length_append,Array.length_toList,hn];rfl
  have hend:∀h',Heap.SameBut a s.heap h'->h'.SetV knd a (λk'=>S k' || decide (k'=k)) es1.size->Q true { s with heap:=h' }:=by
   intro h' hsb hS';have:=h h' hsb;rw[hSk]at this;rw[hsz1]at hS';exact this hS'
  split
  ·refine wpAny_bind ?_;rw[hashByValue_scannable 8 hsc];refine wpAny_pure ?_;refine kc ?_ ho hex hd hel1 hmem1 hb1' ?_ ?_ ?_
   ·intro b s₁ Q' hq;cases b <;> first|exact wpAny_pure hq|exact wpAny_rule hq
   ·split
    ·exact hfits
    ·exact SetTable.fits_plain_off hfits
   ·split
    ·exact hxl
    ·exact⟨hxl.1,hxl.2⟩
   ·intro h' hsb hS';dsimp only;exact wpAny_pure (hend h' hsb hS')
  ·refine wpAny_bind (wpAny_pure ?_);simp only[↓reduceIte];refine kc ?_ ho hex hd hel1 hmem1 hb1' hfits hxl ?_
   ·intro b s₁ Q' hq;cases b <;> first|exact wpAny_pure hq|exact wpAny_rule hq
   ·intro h' hsb hS';dsimp only;exact wpAny_pure (hend h' hsb hS')
end
section
open PyProof.Rows
variable {prog:Program}{w:World}{A:Around}{R:Result->Shared->Prop}{I:Addr}{fp wr:List Addr}{G:Array GenState->Array GenState->Prop}{n:Nat}{P:Nat->Value->Prop}{St:Nat->Shared->Prop}
theorem w5(W:WalksS prog w A.in1 I fp wr G n P St)(S:Addr)(hSf:S∉fp)
  (val:Nat->Int) (hval:∀i v,P i v->∃t,v=.int (val i) t) (hb:n+1<scanBound) :
  ∀(k i:Nat) (s:Shared),n-i=k->i<=n->St i s ->
   s.heap.SetV (intKind prog w) S (λk'=>(firstMet val i).any (· == k')) (firstMet val i).length ->
   (∀s',Moved (S::wr) G s s'->s'.heap.SetV (intKind prog w) S (λk'=>(firstMet val n).any (· == k')) (firstMet val n).length->R (.ok (.ret .none)) s') ->
   codeAny (model prog w) A (.builtin "set.update.loop" ⟨[.ref S,.ref I],[]⟩) R s:=by
 have hSw:S∉wr:=λh=>hSf (W.sub _ h);have hsub:∀b∈wr,b∈S::wr:=λb hb=>List.mem_cons_of_mem _ hb;intro k
 induction k with
 |zero=>
  intro i s hk hi hst hS hR;have hin:i=n:=by omega
  subst hin;refine codeAny_builtin PyProof.Rows.F.entry_set_update_loop ?_;rw[Around.under_plainId PyProof.Rows.F.plain_set_update_loop _];show wpAny _ A.in1 (pyNext (.ref I) >>= _) _ _ s;refine wpAny_bind (W.done s _ _ hst λs' hm=>?_);show wpAny _ A.in1 (ret Value.none) _ _ s';exact wpAny_pure (hR s' (hm.mono hsub) (by
   obtain⟨o,es,ep,t,ho,rest⟩:=hS;exact⟨o,es,ep,t,hm.heap S _ hSw ho,rest⟩))
 |succ k ih=>
  intro i s hk hi hst hS hR;have hlt:i<n:=by omega
  refine codeAny_builtin PyProof.Rows.F.entry_set_update_loop ?_;rw[Around.under_plainId PyProof.Rows.F.plain_set_update_loop _];show wpAny _ A.in1 (pyNext (.ref I) >>= _) _ _ s;refine wpAny_bind (W.item i s _ _ hlt hst λv s' hP hst' hm=>?_);obtain⟨t,rfl⟩:=hval i v hP;have hS':s'.heap.SetV (intKind prog w) S (λk'=>(firstMet val i).any (· == k')) (firstMet val i).length:=by
   obtain⟨o,es,ep,tb,ho,rest⟩:=hS;exact⟨o,es,ep,tb,hm.heap S _ hSw ho,rest⟩
  show wpAny _ A.in1 (holding [Value.int (val i) t] (setAdd S (.int (val i) t)) >>= _) _ _ s';refine wpAny_bind (wpAny_holding ?_);unfold setAdd;refine wpAny_holding ?_;refine wpAny_bind ((intKind prog w).pyHash (k:=val i) (intKind_is _ _ _ _) ?_);have hroom:(firstMet val i).length+1<scanBound:=by have:=firstMet_length_le val i;omega
  refine qh (knd:=intKind prog w) (s:={ s' with toks:=s'.toks+1 }) (intKind_is _ _ _ _) rfl hS' hroom λh' hsb hS2=>?_;have hSi:h'.SetV (intKind prog w) S (λk'=>(firstMet val (i+1)).any (· == k')) (firstMet val (i+1)).length :=
   zir hS2 (λk'=>by rw[firstMet_succ,step_any]) (by rw[firstMet_succ,step_length])
  refine wpAny_pure ⟨plainId_quiet PyProof.Rows.F.plain_set_update_loop _,ih (i+1) _ (by omega) hlt (W.frame _ s' _ _ hst' (Nat.le_succ _) λb hb o e=>?_) hSi λs'' hm'' hS''=>?_⟩
  ·rw[hsb.2 b (λh:b=S=>hSf (by rw[<-h];exact hb))];exact e
  ·refine hR s'' (Moved.trans W.gtrans ((hm.mono hsub).then_heap (Nat.le_succ _) λb o hb e=>?_) hm'') hS'';rw[hsb.2 b (λh:b=S=>hb (by rw[h];exact List.mem_cons_self))];exact e
end
section
variable {prog:Program}{w:World}{A:Around}{E:Value->Shared->Prop}{s:Shared}
theorem qp(a:Value){Q₁:Value->Shared->Prop}
  (h:Q₁ (.ref s.heap.objs.size) { s with heap:=s.heap.push { cls:=.type "set",dict:=none,data:=.set #[] 0 (.fresh 0 0 (!w.params.followText "set-order")) } }) :
  codeAny (model prog w) A (.call (.builtin "set.__new__") ⟨[.type "set",a],[]⟩) (wants Q₁ E) s:=by
 refine codeAny_of_tree ?_;show wpAny _ A.in1 (do checkBuiltinCall "set.__new__" ⟨[.type "set",a],[]⟩;again (.builtin "set.__new__" ⟨[.type "set",a],[]⟩)) _ _ s;refine wpAny_bind (wpAny_of_eq (F.newCall_set_1 a) (wpAny_pure ⟨plainId_quiet F.plain_set_new _,codeAny_builtin F.entry_set_new ?_⟩));rw[Around.under_plainId F.plain_set_new _];unfold Builtin.«set.__new__» Builtin.Frozenset.newClass;have hsub:=sub_set_self;obtain⟨hp,g,d,tk,os⟩:=s;dsimp only
 wp_walk
 refine wpAny_askSetting (wpAny_pure ?_);dsimp only;simp only[newObj];refine wpAny_bind (wpAny_alloc (wpAny_pure ?_));exact wpAny_pure h
end
end PySem
namespace PySem
namespace F
theorem slot_set_iterator_next:Slot "set_iterator" "__next__" "set_iterator.__next__" :=
 .of (owner := "set_iterator") (n := "__next__") (by rw[typeLookup_type,builtinLookup_eq_fast];kernel_rfl) (by decide +kernel) (by decide +kernel) (by decide +kernel)
  (by first|exact .inl (by decide +kernel)|exact .inr (by decide +kernel)) (by rw[isSubtype_type];kernel_rfl)
theorem entry_set_iterator_next:entryFor table "set_iterator.__next__" = some Builtin.«set_iterator.__next__»:=entryFor_of_tree (by kernel_rfl)
theorem args_set_iterator_next_1(a:Value):argsOk "set_iterator.__next__" ⟨[a],[]⟩:=by
 unfold argsOk;kernel_rfl
theorem entry_set_iter:entryFor table "set.__iter__" = some Builtin.«frozenset.__iter__» :=
 entryFor_alias (id' := "frozenset.__iter__") (by kernel_rfl) rfl (by decide +kernel) (by kernel_rfl)
theorem slot_set_iterator_iter:Slot "set_iterator" "__iter__" "set_iterator.__iter__" :=
 .of (owner := "set_iterator") (n := "__iter__") (by rw[typeLookup_type,builtinLookup_eq_fast];kernel_rfl) (by decide +kernel) (by decide +kernel) (by decide +kernel)
  (by first|exact .inl (by decide +kernel)|exact .inr (by decide +kernel)) (by rw[isSubtype_type];kernel_rfl)
theorem entry_set_iterator_iter:entryFor table "set_iterator.__iter__" = some Builtin.«dict_keyiterator.__iter__» :=
 entryFor_alias (id' := "dict_keyiterator.__iter__") (by kernel_rfl) (by first|rfl|decide +kernel |(unfold String.splitOn;simp +decide [String.splitOnAux])) (by decide +kernel) (by kernel_rfl)
theorem args_set_iterator_iter_1(a:Value):argsOk "set_iterator.__iter__" ⟨[a],[]⟩:=by
 unfold argsOk;kernel_rfl
end F
section
variable {prog:Program}{w:World}{A:Around}{E:Value->Shared->Prop}{s:Shared}{a:Addr}{o:Obj}{es:Array (Int×Value)}{ep:Nat}{t:SetTable}
theorem vy{slot given then_:Nat}{Q:Option (Value×Nat)->Shared->Prop}(ho:s.heap.get? a=some o)(hd:o.data=.set es ep t)(hf:t.fits es.size=true)(hT:w.params.followText "set-order" = false)(hp:(!t.plain && decide (es.size > 1))=false)(hl:t.led=true)
  (h:Q (match es[SetTable.below t.place slot]?,t.place[SetTable.below t.place slot]? with|some (_,x),some j=>some (x,j+1)|_,_=>none) s):wpAny (model prog w) A (setNext a slot given then_) Q E s:=by
 unfold setNext;refine wpAny_bind (wpAny_setState_of ho hd hf ?_);dsimp only;unfold setsByText;refine wpAny_bind (wpAny_bind (wpAny_askSetting (wpAny_pure ?_)));refine wpAny_ite_split (λhab=>absurd (show w.params.followText "set-order" = true from hab) (by rw[hT];decide)) (λ_=>?_);refine wpAny_ite_split (λhab=>absurd (show(!t.plain && decide (es.size > 1))=true from hab) (by rw[hp];decide)) (λ_=>?_);refine wpAny_bind ?_;show wpAny _ _ (if (!t.led && !es.isEmpty)=true then unsupported _ else pure ()) _ _ _;rw[hl];exact wpAny_pure (wpAny_pure h)
theorem qt{slot given then_:Nat}{Q:Option (Value×Nat)->Shared->Prop}(ho:s.heap.get? a=some o)(hd:o.data=.set es ep t)(hf:t.fits es.size=true)(hT:w.params.followText "set-order" = true)(he:then_=ep)
  (h:Q (((pickOrder (w.params.setOrder a ep) es)[given]?).map λe=>(e.2,slot)) s):wpAny (model prog w) A (setNext a slot given then_) Q E s:=by
 unfold setNext;refine wpAny_bind (wpAny_setState_of ho hd hf ?_);dsimp only;unfold setsByText;refine wpAny_bind (wpAny_bind (wpAny_askSetting (wpAny_pure ?_)));refine wpAny_ite_split (λ_=>?_) (λhab=>absurd (show w.params.followText "set-order" = true from hT) hab);refine wpAny_ite_split (λhab=>absurd hab (by rw[he];simp)) (λ_=>?_);refine wpAny_bind ?_;unfold setWalk;refine wpAny_bind (wpAny_setState_of ho hd hf ?_);dsimp only;unfold setsByText;refine wpAny_bind (wpAny_bind (wpAny_askSetting (wpAny_pure ?_)));refine wpAny_ite_split (λ_=>?_) (λhab=>absurd (show w.params.followText "set-order" = true from hT) hab);exact wpAny_bind (wpAny_askSetting (wpAny_pure (wpAny_pure h)))
end
end PySem
namespace PySem
section
variable {prog:Program}{w:World}{A:Around}{E:Value->Shared->Prop}{s:Shared}{a:Addr}{o:Obj}{es:Array (Int×Value)}{ep:Nat}{t:SetTable}
def IsSI(h:Heap)(I:Addr)(fs:Array Value):Prop:=∃u,h.get? I=some u/\u.cls=.type "set_iterator" /\ u.data=.fields fs
theorem IsSI.ty{I:Addr}{fs:Array Value}(h:IsSI s.heap I fs):s.TypeIs (.ref I) "set_iterator" := let ⟨u,hu,hc,_⟩:=h;⟨u,hu,hc⟩
theorem zj7{I:Addr}{i slot nx:Nat}{x:Value}{Q:Option Value->Shared->Prop}(hit:IsSI s.heap I #[rawInt slot,rawInt i,.ref a,rawInt es.size,rawInt ep])(ho:s.heap.get? a=some o)(hd:o.data=.set es ep t)(hf:t.fits es.size=true)
  (hn:∀(A':Around) (E':Value->Shared->Prop) (Q':Option (Value×Nat)->Shared->Prop),Q' (some (x,nx)) s->wpAny (model prog w) A' (setNext a slot i ep) Q' E' s)
  (hQ:∀h',IsSI h' I #[rawInt nx,rawInt (i+1:Nat),.ref a,rawInt es.size,rawInt ep]->Heap.SameBut I s.heap h'->Q (some x) { s with heap:=h' }):wpAny (model prog w) A (pyNext (.ref I)) Q E s:=by
 obtain⟨u,hu,hc,hdu⟩:=id hit;unfold pyNext;refine wpAny_bind (wpAny_attempt (wpAny_callSpecial?_slot (name:=Str.ofString "__next__") hit.ty F.slot_set_iterator_next
  (wpAny_call_entry F.slot_set_iterator_next hit.ty F.entry_set_iterator_next ?_ (F.args_set_iterator_next_1 _))))
 show wpAny _ _ (fieldsOf (.ref I) >>= _) _ _ s;refine wpAny_bind (wpAny_fieldsOf hu hdu ?_);show wpAny _ _ (setEntries a >>= _) _ _ s;refine wpAny_bind (wpAny_setEntries_of ho hd hf ?_);refine wpAny_ite_split (λhab=>absurd hab (by simp[rawInt])) (λ_=>?_);show wpAny _ _ (setNext a ((slot:Int).toNat) ((i:Int).toNat) ((ep:Int).toNat) >>= _) _ _ s;simp only[Int.toNat_natCast];refine wpAny_bind (hn _ _ _ ?_);dsimp only;refine wpAny_bind (wpAny_setField hu hdu (by simp) ?_);have h1:=Heap.get?_update_self (Obj.mapFields λv=>v.setIfInBounds 0 (rawInt (nx:Int))) hu (Obj.isFreed_of_fields (Obj.data_mapFields hdu _));refine wpAny_bind (wpAny_setField h1 (Obj.data_mapFields hdu _) (by simp) ?_);refine wpAny_pure ⟨x,rfl,wpAny_pure (hQ _ ?_ ((Heap.SameBut.update ..).trans (Heap.SameBut.update ..)))⟩;refine⟨_,Heap.get?_update_self _ h1 (Obj.isFreed_of_fields (Obj.data_mapFields (Obj.data_mapFields hdu _) _)),(Obj.cls_mapFields ..).trans ((Obj.cls_mapFields ..).trans hc),?_⟩;rw[Obj.data_mapFields (Obj.data_mapFields hdu _)];simp[rawInt]
theorem zj8{I:Addr}{fs:Array Value}{u:Obj}{Q:Option Value->Shared->Prop}(hh:A.handled=none)(hu:s.heap.get? I=some u)(hdu:u.data=.fields fs)(hs:2<fs.size)
  (hQ:∀h',Heap.ExtBut I s.heap h'->Q none { s with heap:=h' }) :
  wpAny (model prog w) A.in1 (do setField (.ref I) 2 .none;raiseNew (<-newExc (.type "StopIteration") []):Sem Fin) (λfin s'=>∃v,fin=Fin.done (Flow.ret v)/\wpAny (model prog w) A (pure (some v)) Q E s')
  (λe s'=>wpAny (model prog w) A (do if <-isInstance e (Value.type "StopIteration") then pure none else throw e) Q E s') s:=by
 refine wpAny_bind (wpAny_setField hu hdu hs ?_);show wpAny _ _ (newExc (.type "StopIteration") [] >>= _) _ _ _;refine wpAny_bind ?_;simp only[newExc,newTuple];refine wpAny_bind (wpAny_newObj_type ?_ (by size_fits));refine wpAny_bind (m:=firstArgMember _ _) (wpAny_of_eq (a:=Value.none) (by first|rfl |(simp only[firstArgMember];rfl)) ?_);refine wpAny_newObj_type ?_ (by size_fits);simp only[raiseNew];refine wpAny_bind (wpAny_handled ?_)
 first|rw[show A.in1.handled=none from hh]|rw[hh]
 refine wpAny_bind (wpAny_pure (wpAny_throw ?_));refine wpAny_bind (wpAny_isInstance (T := "StopIteration") (b:=true) ⟨_,Heap.get?_push_size _ rfl,rfl⟩ isSubtype_stop ?_);exact wpAny_pure (hQ _ (((Heap.SameBut.update ..).extBut.push _).push _))
theorem zj9{I:Addr}{i slot:Nat}{Q:Option Value->Shared->Prop}(hh:A.handled=none)(hit:IsSI s.heap I #[rawInt slot,rawInt i,.ref a,rawInt es.size,rawInt ep])(ho:s.heap.get? a=some o)(hd:o.data=.set es ep t)(hf:t.fits es.size=true)
  (hn:∀(A':Around) (E':Value->Shared->Prop) (Q':Option (Value×Nat)->Shared->Prop),Q' none s->wpAny (model prog w) A' (setNext a slot i ep) Q' E' s)
  (hQ:∀h',Heap.ExtBut I s.heap h'->Q none { s with heap:=h' }):wpAny (model prog w) A (pyNext (.ref I)) Q E s:=by
 obtain⟨u,hu,hc,hdu⟩:=id hit;unfold pyNext;refine wpAny_bind (wpAny_attempt (wpAny_callSpecial?_slot (name:=Str.ofString "__next__") hit.ty F.slot_set_iterator_next
  (wpAny_call_entry F.slot_set_iterator_next hit.ty F.entry_set_iterator_next ?_ (F.args_set_iterator_next_1 _))))
 show wpAny _ _ (fieldsOf (.ref I) >>= _) _ _ s;refine wpAny_bind (wpAny_fieldsOf hu hdu ?_);show wpAny _ _ (setEntries a >>= _) _ _ s;refine wpAny_bind (wpAny_setEntries_of ho hd hf ?_);refine wpAny_ite_split (λhab=>absurd hab (by simp[rawInt])) (λ_=>?_);show wpAny _ _ (setNext a ((slot:Int).toNat) ((i:Int).toNat) ((ep:Int).toNat) >>= _) _ _ s;simp only[Int.toNat_natCast];refine wpAny_bind (hn _ _ _ ?_);exact zj8 hh hu hdu (by simp) hQ
theorem zp7{I tp:Addr}{i p:Nat}{ps:Array Value}{e:Int×Value}{Q:Option Value->Shared->Prop}(hit:IsSI s.heap I #[.ref tp,rawInt i,.ref a,rawInt es.size,rawInt ep])(ht:s.heap.IsTuple tp ps)(hp:ps[i]?=some (rawInt p))(he:es[p]?=some e)
  (ho:s.heap.get? a=some o) (hd:o.data=.set es ep t) (hf:t.fits es.size=true)
  (hQ:∀h',IsSI h' I #[.ref tp,rawInt (i+1:Nat),.ref a,rawInt es.size,rawInt ep]->Heap.SameBut I s.heap h'->Q (some e.2) { s with heap:=h' }):wpAny (model prog w) A (pyNext (.ref I)) Q E s:=by
 obtain⟨u,hu,hc,hdu⟩:=id hit;obtain⟨ot,hot,_,nt,hdt⟩:=ht;unfold pyNext;refine wpAny_bind (wpAny_attempt (wpAny_callSpecial?_slot (name:=Str.ofString "__next__") hit.ty F.slot_set_iterator_next
  (wpAny_call_entry F.slot_set_iterator_next hit.ty F.entry_set_iterator_next ?_ (F.args_set_iterator_next_1 _))))
 show wpAny _ _ (fieldsOf (.ref I) >>= _) _ _ s;refine wpAny_bind (wpAny_fieldsOf hu hdu ?_);show wpAny _ _ (setEntries a >>= _) _ _ s;refine wpAny_bind (wpAny_setEntries_of ho hd hf ?_);refine wpAny_ite_split (λhab=>absurd hab (by simp[rawInt])) (λ_=>?_);show wpAny _ _ (seqItems? (.ref tp) >>= _) _ _ s;refine wpAny_bind (wpAny_seqItems hot hdt ?_);simp only[Int.toNat_natCast,hp,rawInt];unfold setNextDrawn;refine wpAny_bind (wpAny_bind (wpAny_setState_of ho hd hf ?_));refine wpAny_ite_split (λhab=>absurd hab (by simp)) (λ_=>?_);simp only[he];refine wpAny_pure ?_;refine wpAny_bind (wpAny_setField hu hdu (by simp) (wpAny_pure ⟨e.2,rfl,wpAny_pure (hQ _ ?_ (Heap.SameBut.update ..))⟩));exact⟨_,Heap.get?_update_self _ hu (Obj.isFreed_of_fields (Obj.data_mapFields hdu _)),(Obj.cls_mapFields ..).trans hc,by
  rw[Obj.data_mapFields hdu];simp[rawInt]⟩
theorem zp8{I tp:Addr}{i:Nat}{ps:Array Value}{Q:Option Value->Shared->Prop}(hh:A.handled=none)(hit:IsSI s.heap I #[.ref tp,rawInt i,.ref a,rawInt es.size,rawInt ep])(ht:s.heap.IsTuple tp ps)(hp:ps[i]?=none)
  (ho:s.heap.get? a=some o) (hd:o.data=.set es ep t) (hf:t.fits es.size=true)
  (hQ:∀h',Heap.ExtBut I s.heap h'->Q none { s with heap:=h' }):wpAny (model prog w) A (pyNext (.ref I)) Q E s:=by
 obtain⟨u,hu,hc,hdu⟩:=id hit;obtain⟨ot,hot,_,nt,hdt⟩:=ht;unfold pyNext;refine wpAny_bind (wpAny_attempt (wpAny_callSpecial?_slot (name:=Str.ofString "__next__") hit.ty F.slot_set_iterator_next
  (wpAny_call_entry F.slot_set_iterator_next hit.ty F.entry_set_iterator_next ?_ (F.args_set_iterator_next_1 _))))
 show wpAny _ _ (fieldsOf (.ref I) >>= _) _ _ s;refine wpAny_bind (wpAny_fieldsOf hu hdu ?_);show wpAny _ _ (setEntries a >>= _) _ _ s;refine wpAny_bind (wpAny_setEntries_of ho hd hf ?_);refine wpAny_ite_split (λhab=>absurd hab (by simp[rawInt])) (λ_=>?_);show wpAny _ _ (seqItems? (.ref tp) >>= _) _ _ s;refine wpAny_bind (wpAny_seqItems hot hdt ?_);simp only[Int.toNat_natCast,hp];have h1:=Heap.get?_update_self (Obj.mapFields λv=>v.setIfInBounds 0 (rawInt 0)) hu (Obj.isFreed_of_fields (Obj.data_mapFields hdu _));refine wpAny_bind (wpAny_setField hu hdu (by simp) ?_);exact zj8 (s:={ s with heap:=s.heap.update I (Obj.mapFields λv=>v.setIfInBounds 0 (rawInt 0)) }) hh h1 (Obj.data_mapFields hdu _) (by simp) λh' he=>hQ h' λb o hb e=>he b o hb ((Heap.SameBut.update ..).extBut b o hb e)
theorem wa{I:Addr}{fs:Array Value}{Q:Value->Shared->Prop}(hit:IsSI s.heap I fs)(h:Q (.ref I) s):wpAny (model prog w) A (pyIter (.ref I)) Q E s:=by
 refine wpAny_pyIter_slot hit.ty F.slot_set_iterator_iter (wpAny_call_entry F.slot_set_iterator_iter hit.ty F.entry_set_iterator_iter ?_ (F.args_set_iterator_iter_1 _));show wpAny _ _ (ret (.ref I)) _ _ s;exact wpAny_pure ⟨_,rfl, "set_iterator",_,hit.ty,F.slot_set_iterator_next.lookup,h⟩
theorem j1{α:Type}:∀{xs:List α}{i:Nat} (h:i<xs.length),(xs[i]::xs.eraseIdx i).Perm xs
 |x::xs,0,h=>by simp
 |x::xs,i+1,h=>by
  have:=j1 (xs:=xs) (i:=i) (by simpa using h);simp only[List.getElem_cons_succ,List.eraseIdx_cons_succ];exact(List.Perm.swap _ _ _).trans (this.cons x)
theorem zis{src:Source}{n:Nat}{Q:Nat->Shared->Prop}(hn:n≠0)(h:∀i d',i<n->Q i { s with drawn:=d' }):wpAny (model prog w) A (choose src n) Q E s:=λ_ _ _=>⟨hn,h _ _ (Nat.mod_lt _ (Nat.pos_of_ne_zero hn))⟩
theorem zal{α:Type}:∀(n:Nat) (xs:List α) (s:Shared) (Q:List α->Shared->Prop),n=xs.length->(∀ys d',ys.Perm xs->Q ys { s with drawn:=d' })->wpAny (model prog w) A (drawOrder n xs) Q E s
 |0,xs,s,Q,hn,h=>by
  cases xs with
  |nil=>unfold drawOrder;exact wpAny_pure (h [] s.drawn (List.Perm.refl _))
  |cons x xs=>cases hn
 |n+1,[],s,Q,hn,h=>by cases hn
 |n+1,x::xs,s,Q,hn,h=>by
  unfold drawOrder;refine wpAny_bind (zis (by simp) λi d' hi=>?_);rw[List.getElem?_eq_getElem hi];dsimp only;refine wpAny_bind (zal n _ _ _ (by rw[List.length_eraseIdx_of_lt hi];simp at hn;simp[hn]) λys d2 p=>wpAny_pure (h _ d2 ?_));exact(p.cons _).trans (j1 hi)
def zam(f:Value)(a:Addr)(n ep:Nat):Obj:={ cls:=.type "set_iterator",data:=.fields #[f,rawInt 0,.ref a,rawInt n,rawInt ep] }
theorem zba{Q:Value->Shared->Prop}(ho:s.heap.get? a=some o)(hex:o.ExactSet)(hd:o.data=.set es ep t)(hf:t.fits es.size=true)(hz:es.size<=sizeLine)
  (hA:w.params.followText "set-order" = true\/(w.params.followText "set-order" = false/\(!t.plain && decide (es.size > 1))=false)->Q (.ref s.heap.objs.size) { s with heap:=s.heap.push (zam (rawInt 0) a es.size ep) })
  (hB:∀(ys:List Nat) d',ys.Perm (List.range es.size)->Q (.ref (s.heap.objs.size+1)) { s with heap:=(s.heap.push { cls:=.type "tuple",data:=.seq (ys.map λi:Nat=>rawInt i).toArray }).push (zam (.ref s.heap.objs.size) a es.size ep),drawn:=d' }):wpAny (model prog w) A (pyIter (.ref a)) Q E s:=by
 have hT:s.TypeIs (.ref a) "set" :=⟨o,ho,hex.1⟩
 refine wpAny_pyIter_slot hT F.slot_set_iter (wpAny_call_entry F.slot_set_iter hT F.entry_set_iter ?_ (F.args_set_iter_1 _));unfold Builtin.«frozenset.__iter__»;refine wpAny_bind (m:=Builtin.Frozenset.slot0 _ _) (wpAny_of_eq (a:=a) rfl ?_);unfold Builtin.Frozenset.sizeOf;refine wpAny_bind (wpAny_bind (wpAny_setEntries_of ho hd hf (wpAny_pure ?_)));unfold setDrawn setsByText;refine wpAny_bind (wpAny_bind (wpAny_setState_of ho hd hf ?_));refine wpAny_bind (wpAny_bind (wpAny_askSetting (wpAny_pure ?_)));refine wpAny_pure ?_;dsimp only;refine wpAny_ite_split (λhab=>?_) (λhab=>?_)
 ·refine wpAny_bind (zal _ _ _ _ (by simp) λys d' p=>?_);refine wpAny_bind (wpAny_newTuple ?_ (by rw[List.length_map,p.length_eq,List.length_range];exact hz));have ho1:(s.heap.push { cls:=.type "tuple",data:=.seq (ys.map λi:Nat=>rawInt i).toArray }).get? a=some o:=Heap.get?_push_of_some _ ho;unfold setEpoch;refine wpAny_bind (wpAny_bind (wpAny_setState_of ho1 hd hf (wpAny_pure ?_)));refine wpAny_bind (wpAny_newObj_type (wpAny_pure ⟨_,rfl, "set_iterator",_,⟨_,Heap.get?_push_size _ rfl,rfl⟩,F.slot_set_iterator_next.lookup,?_⟩));have:=hB ys d' p;rw[show(s.heap.push { cls:=.type "tuple",data:=.seq (ys.map λi:Nat=>rawInt i).toArray }).objs.size=s.heap.objs.size+1 from Heap.size_push ..];exact this
 ·refine wpAny_bind (wpAny_pure ?_);unfold setEpoch;refine wpAny_bind (wpAny_bind (wpAny_setState_of ho hd hf (wpAny_pure ?_)));refine wpAny_bind (wpAny_newObj_type (wpAny_pure ⟨_,rfl, "set_iterator",_,⟨_,Heap.get?_push_size _ rfl,rfl⟩,F.slot_set_iterator_next.lookup,?_⟩));refine hA ?_
  cases hb:w.params.followText "set-order" with
  |true=>exact .inl rfl
  |false=>
   refine .inr ⟨rfl,?_⟩;have h2:¬ ((!(w.params.followText "set-order")) && (!t.plain && decide (es.size > 1)))=true:=hab;rw[hb]at h2;simpa using h2
end
end PySem
namespace SV
open PySem
def sl(t:SetTable)(i:Nat):Nat:=if i=0 then 0 else t.place.getD (i-1) 0+1
theorem bel_sl{t:SetTable}(h:Ris t.place){i:Nat}(hi:i<=t.place.size):SetTable.below t.place (sl t i)=i:=by
 have b:=jh h (sl t i);have h1:¬ SetTable.below t.place (sl t i)<i:=λc=>by
  have h2:=b.hi _ (Nat.le_refl _) (by omega);unfold sl at h2;rw[if_neg (by omega)]at h2
  by_cases e:SetTable.below t.place (sl t i)=i-1
  ·unfold sl at e;rw[if_neg (by omega)]at e;rw[e]at h2;omega
  ·have h3:=h.lt (i:=SetTable.below t.place (sl t i)) (j:=i-1) (by omega) (by omega);unfold sl at h3;rw[if_neg (by omega)]at h3;omega
 have h4:¬ i<SetTable.below t.place (sl t i):=λc=>by
  have h2:=b.lo i c;have hs:i<t.place.size:=by have:=b.le;omega
  unfold sl at h2
  by_cases z:i=0
  ·rw[if_pos z]at h2;omega
  ·rw[if_neg z]at h2;have h3:=h.lt (i:=i-1) (j:=i) (by omega) hs;omega
 omega
theorem zka{α:Type}{next:Nat->Nat}:∀(fuel k:Nat) (left:List α) (out:Array α),fuel=left.length->(pickOrder.go next fuel k left out).toList.Perm (out.toList++left)
 |0,k,left,out,h=>by
  cases left with
  |nil=>simp[pickOrder.go]
  |cons x l=>cases h
 |fuel+1,k,left,out,h=>by
  have hi:next k % left.length<left.length:=Nat.mod_lt _ (by omega);unfold pickOrder.go;rw[List.getElem?_eq_getElem hi];dsimp only;refine(zka fuel (k+1) _ _ (by rw[List.length_eraseIdx_of_lt hi];omega)).trans ?_;rw[Array.toList_push,List.append_assoc];exact List.Perm.append_left _ (j1 hi)
theorem pick_perm{α:Type}(next:Nat->Nat)(xs:Array α):(pickOrder next xs).toList.Perm xs.toList:=by
 have:=zka (next:=next) xs.size 0 xs.toList #[] (by simp);simpa[pickOrder]using this
end SV
namespace PySem
section
variable {prog:Program}{w:World}{A:Around}{E:Value->Shared->Prop}{s:Shared}{a:Addr}{o:Obj}{es:Array (Int×Value)}{ep:Nat}{t:SetTable}
theorem IsSI.at{h h':Heap}{I:Addr}{fs:Array Value}(x:IsSI h I fs)(e:∀o,h.get? I=some o->h'.get? I=some o):IsSI h' I fs:=let ⟨u,hu,r⟩:=x;⟨u,e _ hu,r⟩
theorem zgs(hh:A.handled=none)(I:Addr)(hne:a≠I)(hd:o.data=.set es ep t)(hf:t.fits es.size=true)(tb:SV.Tb w t)(hT:w.params.followText "set-order" = false)(hp:(!t.plain && decide (es.size > 1))=false):
  Walks prog w A I [I,a] [I] es.size (λi v=>(es.toList.map (·.2))[i]?=some v) (λi h=>i<=es.size/\IsSI h I #[rawInt (SV.sl t i),rawInt i,.ref a,rawInt es.size,rawInt ep]/\h.get? a=some o):=by
 have hs:t.place.size=es.size:=by
  simp only[SetTable.fits,Bool.and_eq_true,beq_iff_eq]at hf;exact hf.1
 have hl:t.led=true:=by rw[tb.2,hT];rfl
 exact{
  sub:=λb hb=>by simp at hb;simp[hb]
  frame:=λ_ _ _ st hk=>⟨st.1,st.2.1.at λo e=>hk I (by simp) o e,hk a (by simp) _ st.2.2⟩
  item:=λi s Q E hi st hQ=>by
   have e0:SetTable.below t.place (SV.sl t i)=i:=SV.bel_sl tb.1 (by omega);have hx:es[i]?=some es[i]:=by simp[hi]
   have hy:t.place[i]?=some (t.place[i]'(by omega)):=by simp[hs,hi]
   refine zj7 (x:=es[i].2) (nx:=SV.sl t (i+1)) st.2.1 st.2.2 hd hf (λA' E' Q' q=>vy st.2.2 hd hf hT hp hl ?_) λh' hit' hs'=>?_
   ·rw[e0,hx,hy];have:SV.sl t (i+1)=(t.place[i]'(by omega))+1:=by simp[SV.sl,Array.getD,hs,hi]
    rw[this]at q;exact q
   ·exact hQ _ h' s.toks (by simp[hi]) ⟨by omega,hit',hs'.extBut a _ hne st.2.2⟩ λb o hb e=>hs'.extBut b o (λh=>hb (by simp[h])) e
  done:=λs Q E st hQ=>by
   have e0:SetTable.below t.place (SV.sl t es.size)=es.size:=SV.bel_sl tb.1 (by omega);refine zj9 hh st.2.1 st.2.2 hd hf (λA' E' Q' q=>vy st.2.2 hd hf hT hp hl ?_) λh' he'=>hQ h' s.toks λb o hb e=>he' b o (λh=>hb (by simp[h])) e;rw[e0];simpa using q
  self:=λ_ _ _ _ st hQ=>wa st.2.1 hQ }
theorem zit(hh:A.handled=none)(I:Addr)(hne:a≠I)(hd:o.data=.set es ep t)(hf:t.fits es.size=true)(hT:w.params.followText "set-order" = true):
  Walks prog w A I [I,a] [I] es.size (λi v=>((pickOrder (w.params.setOrder a ep) es).toList.map (·.2))[i]?=some v) (λi h=>IsSI h I #[rawInt 0,rawInt i,.ref a,rawInt es.size,rawInt ep]/\h.get? a=some o):=by
 have hs:(pickOrder (w.params.setOrder a ep) es).size=es.size:=by
  have:=(SV.pick_perm (w.params.setOrder a ep) es).length_eq;simpa using this
 exact{
  sub:=λb hb=>by simp at hb;simp[hb]
  frame:=λ_ _ _ st hk=>⟨st.1.at λo e=>hk I (by simp) o e,hk a (by simp) _ st.2⟩
  item:=λi s Q E hi st hQ=>by
   have hx:(pickOrder (w.params.setOrder a ep) es)[i]?=some ((pickOrder (w.params.setOrder a ep) es)[i]'(by omega)):=by simp[hs,hi]
   refine zj7 (slot:=0) (nx:=0) (x:=((pickOrder (w.params.setOrder a ep) es)[i]'(by omega)).2) st.1 st.2 hd hf (λA' E' Q' q=>qt st.2 hd hf hT rfl ?_) λh' hit' hs'=>?_
   ·rw[hx];exact q
   ·exact hQ _ h' s.toks (by simp[hs,hi]) ⟨hit',hs'.extBut a _ hne st.2⟩ λb o hb e=>hs'.extBut b o (λh=>hb (by simp[h])) e
  done:=λs Q E st hQ=>by
   refine zj9 (slot:=0) hh st.1 st.2 hd hf (λA' E' Q' q=>qt st.2 hd hf hT rfl ?_) λh' he'=>hQ h' s.toks λb o hb e=>he' b o (λh=>hb (by simp[h])) e;rw[Array.getElem?_eq_none (by omega)];exact q
  self:=λ_ _ _ _ st hQ=>wa st.1 hQ }
theorem zgt(hh:A.handled=none)(I tp:Addr)(hne:a≠I)(hnt:tp≠I)(hd:o.data=.set es ep t)(hf:t.fits es.size=true){ys:List Nat}(hp:ys.Perm (List.range es.size)):
  Walks prog w A I [I,a,tp] [I] es.size (λi v=>((ys.filterMap (es[·]?)).map (·.2))[i]?=some v) (λi h=>IsSI h I #[.ref tp,rawInt i,.ref a,rawInt es.size,rawInt ep]/\h.get? a=some o/\h.IsTuple tp (ys.map λi:Nat=>rawInt i).toArray):=by
 have hl:ys.length=es.size:=by rw[hp.length_eq,List.length_range]
 have hm:∀i (hi:i<ys.length),ys[i] < es.size:=λi hi=>List.mem_range.mp (hp.mem_iff.mp (List.getElem_mem hi));have hfm:∀(zs:List Nat),(∀z∈zs,z<es.size)->∀i (hi:i<zs.length),(zs.filterMap (es[·]?))[i]?=es[zs[i]]?:=λzs=>by
  induction zs with
  |nil=>intro _ i hi;simp at hi
  |cons z zs ih=>
   intro h i hi;have hz:=h z List.mem_cons_self;rw[List.filterMap_cons_some (b:=es[z]) (by simp[hz])]
   cases i with
   |zero=>simp[hz]
   |succ i=>
    have:=ih (λy hy=>h y (List.mem_cons_of_mem _ hy)) i (by simpa using hi);simpa using this
 have hall:∀z∈ys,z<es.size:=λz hz=>List.mem_range.mp (hp.mem_iff.mp hz);exact{
  sub:=λb hb=>by simp at hb;simp[hb]
  frame:=λ_ _ _ st hk=>⟨st.1.at λo e=>hk I (by simp) o e,hk a (by simp) _ st.2.1,st.2.2.at λo e=>hk tp (by simp) o e⟩
  item:=λi s Q E hi st hQ=>by
   have hi':i<ys.length:=by omega
   have hx:es[ys[i]]?=some (es[ys[i]]'(hm i hi')):=by simp[hm i hi']
   refine zp7 (p:=ys[i]) (e:=es[ys[i]]'(hm i hi')) st.1 st.2.2 (by simp[hi']) hx st.2.1 hd hf λh' hit' hs'=>?_;refine hQ _ h' s.toks ?_ ⟨hit',hs'.extBut a _ hne st.2.1,st.2.2.extBut hs'.extBut hnt⟩ λb o hb e=>hs'.extBut b o (λh=>hb (by simp[h])) e;rw[List.getElem?_map,hfm ys hall i hi',hx];rfl
  done:=λs Q E st hQ=>zp8 hh st.1 st.2.2 (by simp;omega) st.2.1 hd hf λh' he'=>hQ h' s.toks λb o hb e=>he' b o (λh=>hb (by simp[h])) e
  self:=λ_ _ _ _ st hQ=>wa st.1 hQ }
end
end PySem
namespace SV
open PySem
theorem zcw{ord:List Value}{n:Nat}(hl:ord.length=n){acc:Array Value}(h:ItemsOf (λi v=>ord[i]?=some v) acc n):acc.toList=ord:=by
 obtain⟨h1,h2⟩:=h;refine List.ext_getElem? λi=>?_
 by_cases c:i<acc.size
 ·have e:acc[i]?=some acc[i]:=by simp[c]
  rw[h2 i _ e];simp[c]
 ·rw[List.getElem?_eq_none (by simp;omega),List.getElem?_eq_none (by omega)]
section
variable {prog:Program}{w:World}{A:Around}{E:Value->Shared->Prop}{s:Shared}{a:Addr}{o:Obj}{es:Array (Int×Value)}{ep:Nat}{t:SetTable}
theorem ziu(hh:A.handled=none)(ho:s.heap.get? a=some o)(hex:o.ExactSet)(hd:o.data=.set es ep t)(hf:t.fits es.size=true)(tb:Tb w t)(hz:es.size<=sizeLine):
  wpAny (model prog w) A (pyIter (.ref a)) (λv s'=>∃(I:Addr) (h':Heap) (d':_) (fp:List Addr) (P:Nat->Value->Prop) (St:Nat->Heap->Prop),v=.ref I/\s' = { s with heap:=h',drawn:=d' }/\(∀b o,s.heap.get? b=some o->h'.get? b=some o)/\s.heap.objs.size<=I
   /\ Walks prog w A I fp [I] es.size P St/\St 0 h'/\(∀b∈fp,b=a\/s.heap.objs.size<=b)/\∀acc,ItemsOf P acc es.size->acc.toList.Perm (es.toList.map (·.2))) E s:=by
 have la:a<s.heap.objs.size:=Heap.lt_size ho;refine zba ho hex hd hf hz (λc=>?_) (λys d' p=>?_)
 ·have hne:a≠s.heap.objs.size:=Nat.ne_of_lt la;have g1:IsSI (s.heap.push (zam (rawInt 0) a es.size ep)) s.heap.objs.size #[rawInt 0,rawInt 0,.ref a,rawInt es.size,rawInt ep]:=⟨_,Heap.get?_push_size _ rfl,rfl,rfl⟩
  have g2:(s.heap.push (zam (rawInt 0) a es.size ep)).get? a=some o:=Heap.get?_push_of_some _ ho;have k:∀b o,s.heap.get? b=some o->(s.heap.push (zam (rawInt 0) a es.size ep)).get? b=some o:=λb o e=>Heap.get?_push_of_some _ e;have hfp:∀b ∈ [s.heap.objs.size,a],b=a\/s.heap.objs.size<=b:=λb hb=>by
   simp at hb;rcases hb with rfl|rfl
   ·exact .inr (Nat.le_refl _)
   ·exact .inl rfl
  rcases c with hT |⟨hT,hp⟩
  ·refine⟨_,_,s.drawn,_,_,_,rfl,rfl,k,Nat.le_refl _,zit hh _ hne hd hf hT,⟨g1,g2⟩,hfp,λacc hacc=>?_⟩;have pm:=SV.pick_perm (w.params.setOrder a ep) es;rw[zcw (by rw[List.length_map,pm.length_eq];simp) hacc];exact pm.map _
  ·refine⟨_,_,s.drawn,_,_,_,rfl,rfl,k,Nat.le_refl _,zgs hh _ hne hd hf tb hT hp,⟨Nat.zero_le _,g1,g2⟩,hfp,λacc hacc=>?_⟩;rw[zcw (by simp) hacc]
 ·have hne:a≠s.heap.objs.size+1:=Nat.ne_of_lt (Nat.lt_succ_of_lt la)
  have g1:((s.heap.push { cls:=.type "tuple",data:=.seq (ys.map λi:Nat=>rawInt i).toArray }).push (zam (.ref s.heap.objs.size) a es.size ep)).get? (s.heap.objs.size+1)=some (zam (.ref s.heap.objs.size) a es.size ep):=by
   rw[show s.heap.objs.size+1=(s.heap.push { cls:=.type "tuple",data:=.seq (ys.map λi:Nat=>rawInt i).toArray }).objs.size from(Heap.size_push ..).symm];exact Heap.get?_push_size _ rfl
  have k:∀b o,s.heap.get? b=some o->((s.heap.push { cls:=.type "tuple",data:=.seq (ys.map λi:Nat=>rawInt i).toArray }).push (zam (.ref s.heap.objs.size) a es.size ep)).get? b=some o:=λb o e=>Heap.get?_push_of_some _ (Heap.get?_push_of_some _ e);have g3:((s.heap.push { cls:=.type "tuple",data:=.seq (ys.map λi:Nat=>rawInt i).toArray }).push (zam (.ref s.heap.objs.size) a es.size ep)).IsTuple s.heap.objs.size (ys.map λi:Nat=>rawInt i).toArray:=⟨_,Heap.get?_push_of_some _ (Heap.get?_push_size _ rfl),rfl,_,rfl⟩
  refine⟨_,_,d',_,_,_,rfl,rfl,k,Nat.le_succ _,zgt hh _ s.heap.objs.size hne (Nat.ne_of_lt (Nat.lt_succ_self _)) hd hf p,⟨⟨_,g1,rfl,rfl⟩,k _ _ ho,g3⟩,λb hb=>?_,λacc hacc=>?_⟩
  ·simp at hb;rcases hb with rfl|rfl|rfl
   ·exact .inr (Nat.le_succ _)
   ·exact .inl rfl
   ·exact .inr (Nat.le_refl _)
  ·have pm:(ys.filterMap (es[·]?)).Perm es.toList:=by
    have h1:=p.filterMap (es[·]?);have h2:=List.filterMap_getElem?_range_length es.toList;simp only[Array.length_toList,Array.getElem?_toList]at h2;rw[h2]at h1;exact h1
   rw[zcw (by rw[List.length_map,pm.length_eq];simp) hacc];exact pm.map _
theorem collect_set{Q:List Value->Shared->Prop}(hh:A.handled=none)(ho:s.heap.get? a=some o)(hex:o.ExactSet)(hd:o.data=.set es ep t)(hf:t.fits es.size=true)(tb:Tb w t)(hz:es.size<=sizeLine)
  (hQ:∀(h':Heap) (d':_) (tk:Nat) (vs:List Value),vs.Perm (es.toList.map (·.2))->(∀b o,s.heap.get? b=some o->h'.get? b=some o)->s.heap.objs.size<h'.objs.size->Q vs { s with heap:=h',drawn:=d',toks:=tk }):wpAny (model prog w) A (collect (.ref a)) Q E s:=by
 have la:a<s.heap.objs.size:=Heap.lt_size ho;have hSI:s.heap.objs.size≠a:=Nat.ne_of_gt la;unfold collect;refine wpAny_bind (wpAny_runValue (codeAny_builtin PySem.F.entry_proto_collect ?_));rw[Around.under_plainId PySem.F.plain_proto_collect _];show wpAny _ A.in1 (newList [] >>= λl=>again (.builtin "list.__iadd__" ⟨[l,.ref a],[]⟩)) _ _ s;refine wpAny_bind (wpAny_newObj_type ?_);refine wpAny_pure ⟨plainId_quiet PySem.F.plain_list_iadd _,codeAny_builtin PySem.F.entry_list_iadd ?_⟩;rw[Around.under_plainId PySem.F.plain_list_iadd _];show wpAny _ A.in1 (Builtin.List.listExtendWith (.ref s.heap.objs.size) (.ref a) (.ref s.heap.objs.size)) _ _ _;unfold Builtin.List.listExtendWith;have ho1:(s.heap.push { cls:=.type "list",data:=.seq ([]:List Value).toArray }).get? a=some o:=Heap.get?_push_of_some _ ho;have hS1:(s.heap.push { cls:=.type "list",data:=.seq ([]:List Value).toArray }).get? s.heap.objs.size=some { cls:=.type "list",data:=.seq ([]:List Value).toArray }:=Heap.get?_push_size _ rfl;refine wpAny_bind (wpAny_typeOf (T := "set") ⟨o,ho1,hex.1⟩ ?_);have h1:Builtin.List.listSameRef (.ref s.heap.objs.size) (.ref a)=false:=by simp[Builtin.List.listSameRef,hSI]
 have h2:(Value.type "set" == Value.type "list")=false:=by decide
 have h3:(Value.type "set" == Value.type "tuple")=false:=by decide
 simp only[h1,h2,h3,Bool.or_false,Bool.false_eq_true,if_false];refine wpAny_bind (wpAny_mono (ziu (A:=A.in1) hh ho1 hex hd hf tb hz) ?_ λ_ _ e=>e);rintro v s1 ⟨I,h',d',fp,P,St,rfl,rfl,k,hI,W,st,hfp,hacc⟩;rw[Heap.size_push]at hI hfp;have hSf:s.heap.objs.size∉fp:=λhm=>by
  rcases hfp _ hm with e|e
  ·exact hSI e
  ·omega
 have hS2:=k _ _ hS1;refine wpAny_bind (wpAny_holding ?_);unfold Builtin.List.listLengthHint;refine wpAny_bind (wpAny_specialOf (T := "set") ⟨o,k _ _ ho1,hex.1⟩ PySem.F.slot_set_len.lookup ?_);generalize hid:("set.__len__" : String)=id0
 wp_delta
 rw[show splitId id0=some ("set", "__len__") from by subst hid;decide +kernel];subst hid;refine wpAny_bind (wpAny_isInstance (T := "set") (b:=true) ⟨o,k _ _ ho1,hex.1⟩ (by rw[isSubtype_type];kernel_rfl) ?_);refine wpAny_ite_split (λhab=>absurd hab (by decide)) (λ_=>?_);refine wpAny_ite_split (λ_=>?_) (λhab=>absurd (by decide +kernel) hab);refine wpAny_bind (wpAny_typeOf (T := "set") ⟨o,k _ _ ho1,hex.1⟩ ?_);refine wpAny_pure ?_;refine wpAny_ite_split (λ_=>?_) (λhab=>absurd (by decide +kernel) hab);refine wpAny_bind (wpAny_rule ?_);refine wpAny_bind ?_;show wpAny _ A.in1 (updateSeq s.heap.objs.size (·.push .none) >>= λ_=>updateSeq s.heap.objs.size (·.pop)) _ _ _;refine wpAny_bind (wpAny_updateSeq hS2 rfl ?_);have hS3:=Heap.get?_update_self (Obj.mapSeq (·.push Value.none)) hS2 rfl;refine wpAny_updateSeq hS3 rfl ?_;have hS4:=Heap.get?_update_self (Obj.mapSeq (·.pop)) hS3 rfl;have oth:∀b o,b≠s.heap.objs.size->h'.get? b=some o->((h'.update s.heap.objs.size (Obj.mapSeq (·.push Value.none))).update s.heap.objs.size (Obj.mapSeq (·.pop))).get? b=some o :=
  λb o hb e=>(Heap.get?_update_other _ _ (Ne.symm hb)).trans ((Heap.get?_update_other _ _ (Ne.symm hb)).trans e)
 refine wpAny_pure ⟨plainId_quiet PySem.F.plain_extend_loop _,codeAny_extend_loopS W.toS hz _ hSf _ es.size 0 _ _ _ rfl (Nat.zero_le _) (W.frame 0 h' _ st λb hb o e=>oth b o (λh=>hSf (h ▸ hb)) e) hS4 (ItemsOf.nil P) λs' acc' c' hm hS' ha=>?_⟩;show wpAny _ A (load s.heap.objs.size >>= _) _ _ s';refine wpAny_bind (wpAny_load hS' ?_);rw[Moved.eq_with hm];refine wpAny_pure (hQ _ _ _ _ (hacc _ ha) (λb o e=>?_) (Heap.lt_size hS'));have lb:b<s.heap.objs.size:=Heap.lt_size e;refine hm.heap b o (λhmem=>?_) (oth b o (Nat.ne_of_lt lb) (k b o (Heap.get?_push_of_some _ e)));rcases List.mem_cons.mp hmem with e'|hmem
 ·exact absurd e' (Nat.ne_of_lt lb)
 ·have e2:=List.mem_singleton.mp hmem;rw[e2]at lb;exact absurd (Nat.lt_of_lt_of_le (Nat.lt_of_lt_of_le lb (Nat.le_succ _)) hI) (Nat.lt_irrefl _)
end
end SV
namespace SQ
open PySem PyProof.Rows
theorem IntsAre.mk:∀{us:List Value},(∀v∈us,∃n t,v=.int n t)->∃ns,IntsAre us ns
 |[],_=>⟨[],.nil⟩
 |u::us,h=>by
  obtain⟨n,t,rfl⟩:=h u List.mem_cons_self;obtain⟨ns,e⟩:=IntsAre.mk λv hv=>h v (List.mem_cons_of_mem _ hv);exact⟨n::ns,.cons n t e⟩
section
variable {prog:Program}{w:World}{A:Around}{E:Value->Shared->Prop}{s:Shared}{a:Addr}{o:Obj}{es:Array (Int×Value)}{ep:Nat}{t:SetTable}
end
end SQ
namespace L2
open PySem PySem.Spec PyProof.Rows SQ
theorem zbb:∀{xs ys:List Int},xs.Nodup->(∀x∈xs,x∈ys)->ys.length<=xs.length->ys.Perm xs
 |[],ys,_,_,h=>by
  have:ys = []:=List.length_eq_zero_iff.mp (by simpa using h);subst this;exact .refl _
 |x::xs,ys,hn,hs,h=>by
  obtain⟨h1,h2⟩:=List.nodup_cons.mp hn;have hx:=hs x List.mem_cons_self;have p:=List.perm_cons_erase hx;refine p.trans (List.Perm.cons x (zbb h2 (λz hz=>?_) ?_))
  ·exact(List.mem_erase_of_ne (λe=>h1 (by rw[<-e];exact hz))).mpr (hs z (List.mem_cons_of_mem _ hz))
  ·have:=p.length_eq;simp at this h ⊢;omega
theorem ve(val:Nat->Int):∀i,(firstMet val i).Nodup
 |0=>by rw[firstMet_zero];exact List.nodup_nil
 |i+1=>by
  rw[firstMet_succ];unfold step_dedup
  split
  ·exact ve val i
  ·next c=>
   refine List.nodup_append.mpr ⟨ve val i,by simp,λx hx y hy e=>c ?_⟩
   cases List.mem_singleton.mp hy;exact List.any_eq_true.mpr ⟨x,hx,by simp[e]⟩
theorem zff(val:Nat->Int)(i:Nat)(x:Int):x∈firstMet val i↔x∈(List.range i).map val:=by
 have:=firstMet_any val i x;constructor
 ·intro h;have h1:(firstMet val i).any (· == x)=true:=List.any_eq_true.mpr ⟨x,h,by simp⟩;rw[this]at h1;obtain⟨y,hy,e⟩:=List.any_eq_true.mp h1;rw[<-eq_of_beq e];exact hy
 ·intro h;have h1:((List.range i).map val).any (· == x)=true:=List.any_eq_true.mpr ⟨x,h,by simp⟩;rw[<-this]at h1;obtain⟨y,hy,e⟩:=List.any_eq_true.mp h1;rw[<-eq_of_beq e];exact hy
theorem ziv(ns:List Int):(List.range ns.length).map (λi=>ns.getD i 0)=ns:=by
 refine List.ext_getElem (by simp) λi h1 h2=>?_;simp[h2]
theorem zn8{prog:Program}{w:World}{h:Heap}{a:Addr}{ns:List Int}(hS:h.SetV (intKind prog w) a (λk'=>(firstMet (λi=>ns.getD i 0) ns.length).any (· == k')) (firstMet (λi=>ns.getD i 0) ns.length).length):
  ∃o es ep t ks,h.get? a=some o/\o.ExactSet/\o.data=.set es ep t/\t.fits es.size=true/\SV.Tb w t/\es.size<=ns.length/\IntsAre (es.toList.map (·.2)) ks/\ks.Nodup/\∀x,x∈ks↔x∈ns:=by
 obtain⟨o,es,ep,t,ho,hex,hd,hel,hmem,hb,hf,hn,hx⟩:=hS;have hi:∀v∈es.toList.map (·.2),∃n t,v=Value.int n t:=λv hv=>by
  obtain⟨e,he,rfl⟩:=List.mem_map.mp hv;obtain⟨⟨k,hk,_⟩,_⟩:=hel e he;obtain⟨u,e2⟩:=Value.isInt_shape hk;exact⟨k,u,e2⟩
 obtain⟨ks,hks⟩:=IntsAre.mk hi;have mk:∀{us:List Value}{ks:List Int},IntsAre us ks->∀x,x∈ks↔∃t,Value.int x t∈us:=λ{us ks} h=>by
  induction h with
  |nil=>intro x;simp
  |cons n t h ih=>
   intro x;rw[List.mem_cons,ih];constructor
   ·rintro (rfl |⟨u,hu⟩)
    ·exact⟨t,List.mem_cons_self⟩
    ·exact⟨u,List.mem_cons_of_mem _ hu⟩
   ·rintro ⟨u,hu⟩;rcases List.mem_cons.mp hu with e|hu
    ·cases e;exact .inl rfl
    ·exact .inr ⟨u,hu⟩
 have hmm:∀x,x∈ks↔x∈firstMet (λi=>ns.getD i 0) ns.length:=λx=>by
  rw[mk hks x];have h1:=hmem x;constructor
  ·rintro ⟨u,hu⟩;obtain⟨e,he,e2⟩:=List.mem_map.mp hu;have h2:=h1.mpr ⟨e,he,by rw[e2];exact intKind_is _ _ _ _⟩;obtain⟨y,hy,e3⟩:=List.any_eq_true.mp h2;rw[<-eq_of_beq e3];exact hy
  ·intro hx;obtain⟨e,he,hk⟩:=h1.mp (List.any_eq_true.mpr ⟨x,hx,by simp⟩);obtain⟨u,e2⟩:=Value.isInt_shape hk;exact⟨u,List.mem_map.mpr ⟨e,he,e2⟩⟩
 have lk:ks.length=es.size:=by rw[<-IntsAre.length hks,List.length_map,Array.length_toList]
 have pm:ks.Perm (firstMet (λi=>ns.getD i 0) ns.length):=zbb (ve _ _) (λx hx=>(hmm x).mpr hx) (by omega);refine⟨o,es,ep,t,ks,ho,hex,hd,hf,hx,?_,hks,pm.nodup_iff.mpr (ve _ _),λx=>?_⟩
 ·rw[hn];exact firstMet_length_le _ _
 ·rw[hmm,zff,ziv]
section
variable {X:Cx}{a:Expr}{p pos p2 pos2:Pos}
theorem Inv.dr{pins:List (Addr×Obj)}{σ:List (Option V)}{H:Hp}{s:Shared}(I:Inv X pins σ H s)(d:Drawn):Inv X pins σ H { s with drawn:=d }:=⟨I.ok,I.os,I.bare,I.base,I.loc,I.cell,I.free,I.freeC,I.pin,I.hok,I.len⟩
end
end L2
namespace SQ
open PySem PyProof.Rows
section
variable {prog:Program}{w:World}{A:Around}{E:Value->Shared->Prop}{s:Shared}{a:Addr}{o:Obj}{es:Array (Int×Value)}{ep:Nat}{t:SetTable}
end
end SQ
namespace L2
open PySem PySem.Spec PyProof.Rows SQ
section
variable {X:Cx}{a:Expr}{p pos p2 pos2:Pos}
end
end L2
namespace L2
open PySem PySem.Spec PyProof.Rows
section
variable {X:Cx}{pins:List (Addr×Obj)}{σ:St}{H:Hp}{s:Shared}{P c:Addr}{q:Str}
end
section
variable {X:Cx}{pins:List (Addr×Obj)}{σ:St}{H:Hp}{a it S f:Addr}{xs:List V}{kf:Nat->Int}{kwd:List (Str×Value)}{R:Value->Shared->Prop}
structure zyb(X:Cx)(pins:List (Addr×Obj))(σ:St)(H:Hp)(a it S:Addr)(xs:List V)(kf:Nat->Int)(j i:Nat)(H1:Hp)(s:Shared):Prop where
 I:Inv X pins σ H1 s
 sm:Same H H1
 st:s.heap.IsTupleIter it a j
 f1:FpOk X pins H1 it
 f2:FpOk X pins H1 S
 ne:it≠S
 best:∃vb tb c x,s.heap.get? S=some (seqObj "list" #[vb,.int (kf i) tb] c)/\xs[i]?=some x/\RelV x vb
 lt:i<j
 mx:∀j',j' < j->kf j'<=kf i/\(j' < i->kf j' < kf i)
theorem FpOk.at{b:Addr}{H1 H2:Hp}(h:FpOk X pins H1 b)(n:H2 b=none):FpOk X pins H2 b:=⟨n,h.2⟩
end
section
variable {X:Cx}{pins:List (Addr×Obj)}{σ:St}{H:Hp}{a f:Addr}{xs:List V}{kf:Nat->Int}{R:Value->Shared->Prop}{s:Shared}
end
section
variable {X:Cx}{a body:Expr}{ta:DTF}{tb:DTE}{p pos kp kp2 lp cp:Pos}{k:Nat}{P c:Addr}{q y:Str}{params:Arguments}{scope:Scope}{N:List Str}
end
section
variable {X:Cx}{e:Expr}{es:List Expr}{k k':Nat}{x q:Str}{T:Addr}{ps:List Str}{sp:DSp}{t:DTP}{p pos:Pos}
end
section
variable {P:Program}{w:World}{K:PySem.W.Frag}{mg:Str->Option Value}{base:Heap}
end
section
variable {T a:Addr}{K:PySem.W.Frag}{h:Heap}
end
end L2
namespace PySem
open Sem (wp)
section
variable {prog:Program}{w:World}{A:Around}{E:Value->Shared->Prop}{h:Heap}{g:Array GenState}{d:Drawn}{t:Nat}{os:OsState}
variable {nm q:Str}{C N:Addr}{bs bm bmB bmN:List Value}{hdct:Bool}{sn:List Str}{sub:List Value}{ab:Bool}{col:Option Bool}{dd:Option Addr}{k0 k1 k2 k3 k5:Option Value}{B Bn newId nid initId inN:String}
end
end PySem
namespace PySem
open Sem (wp)
open Builtin Builtin.ObjectAttr
section
variable {prog:Program}{w:World}{A:Around}{E:Value->Shared->Prop}{h:Heap}{g:Array GenState}{d:Drawn}{t:Nat}{os:OsState}
variable {nm q:Str}{C N x:Addr}{bs bm bmB:List Value}{sn:List Str}{sub:List Value}{ab:Bool}{col:Option Bool}{dd:Option Addr}{k0 k1 k2 k3 k5:Option Value}{B newId sa owner:String}
 {mA:Str->Option Value}{name:Str}{v:Value}
end
end PySem
namespace PySem
open Sem (wp)
section
variable {M:Model}{A:Around}{E:Value->Shared->Prop}{s:Shared}{env:Env}
variable {nm q:Str}{C N:Addr}{bs bm bmB bmN:List Value}{hdct:Bool}{sn:List Str}{sub:List Value}{ab:Bool}{col:Option Bool}{dd:Option Addr}{k0 k1 k2 k3 k5:Option Value}{B Bn newId nid initId inN:String}
end
section
variable {prog:Program}{w:World}{A:Around}{E:Value->Shared->Prop}{s:Shared}{env:Env}
variable {nm q:Str}{C N:Addr}{bs bm bmB bmN:List Value}{hdct:Bool}{sn:List Str}{sub:List Value}{ab:Bool}{col:Option Bool}{dd:Option Addr}{k0 k1 k2 k3 k5:Option Value}{B Bn newId nid initId inN:String}
end
end PySem
namespace L2
open PySem PySem.Spec PyProof.Rows
def ztv(K:PySem.W.Frag)(C:Addr)(bmB:List Value)(newId:String)(fI:Addr):Bool:=match K.lookup C with
 |some ⟨.type "type",_,.cls cd,sl⟩=>(match cd.mro,sl.toList with
  |.ref C'::bm,[_,_,_,_,some (.builtin n),_]=>C' == C && n == newId && !cd.hasDel && cd.hasDict && PySem.W.tailIn K bmB bm && PySem.W.nsOkIn K cd.ns && PySem.W.nsIn K cd.ns "__init__" == some (some (.ref fI))
  |_,_=>false)
 |_=>false
section
variable {X:Cx}{pins:List (Addr×Obj)}{σ:St}{H:Hp}{s:Shared}
end
def zn9(C t:Addr)(od:Option Addr):Obj:={ cls:=.ref C,dict:=od,data:=.fields #[.ref t,.none,.none,.none,.bool false,.none] }
def ztw(C t:Addr)(od:Option Addr)(a:Addr):HO:=.ext λh=>h.get? a=some (zn9 C t od)
structure XI(X:Cx)(σ:St)(H:Hp)(s:Shared)(e C t:Addr)(od:Option Addr)(mA:Str->Option Value)(c:Nat):Prop where
 I:Inv X [] σ H s
 tr:H e=some (ztw C t od e)
 no:od=none->∀n,mA n=none
 ns:∀d,od=some d->d≠e/\s.heap.Ns1 d mA/\FpOk X [] H d
 few:∃ks,Within mA ks/\ks.length<=c
structure zyc(K:PySem.W.Frag)(C fI:Addr)(fs:List Str):Prop where
 cls:ztv K C [.type "ValueError",.type "Exception",.type "BaseException",.type "object"] "ValueError.__new__" fI=true
 sa:PySem.W.findIn K (.ref C) "__setattr__" = some (some (.builtin "object.__setattr__"))
 at_:∀f∈fs,PySem.W.findIn K (.ref C) f=some none
section
variable {X:Cx}{σ:St}{H:Hp}{s:Shared}{e C t fI:Addr}{od:Option Addr}{mA:Str->Option Value}{fs:List Str}{c:Nat}
theorem XI.ob(x:XI X σ H s e C t od mA c):s.heap.get? e=some (zn9 C t od):=(x.I.hok e _ x.tr).1
end
def zxq(fs:List Str)(ns:List Int):List (Str×V):=(fs.zip ns).map λp=>(p.1,V.int p.2)
def zp9(P:Program)(w:World)(outer:List Env)(H:Hp)(s s':Shared)(e C t:Addr)(fv:List (Str×V)):Prop :=
 ∃d H',s'.os=s.os/\AllBare s'.gens/\Un (frs outer) [] H H' s.heap s'.heap/\HOk P w H' s'.heap/\H' e=some (ztw C t (some d) e)/\H' d=some (.xd fv)/\But e H H'/\d≠e/\H d=none
structure zxr(P:Program)(w:World)(K:PySem.W.Frag)(mg:Str->Option Value)(base:Heap)(k:Nat)(C fI:Addr)(fs:List Str):Prop where
 run:∀(A:Around) (outer:List Env) (s:Shared) (H:Hp) (e t:Addr) (ns:List Int) (us:List Value),Room k A->zhs P w K mg base A outer s H->H e=some (ztw C t none e)->Vals (ns.map V.int) us->ns.length=fs.length ->
  codeAny (model P w) A (.call (.ref fI) ⟨.ref e::us,[]⟩) (λr s'=>r=.ok (.ret .none)/\zp9 P w outer H s s' e C t (zxq fs ns)) s
section
variable {P:Program}{w:World}{K:PySem.W.Frag}{mg:Str->Option Value}{base:Heap}{k:Nat}{C fI:Addr}{fd:FuncData}{qual:Str}{st:Stmt}
end
section
variable {P:Program}{w:World}{K:PySem.W.Frag}{mg:Str->Option Value}{base:Heap}{N:List Str}{qual:Str}{scope:Scope}{f:Addr}{cd:Value}{A:Around}{outer:List Env}{s:Shared}{H:Hp}{E:XK}
end
end L2
namespace L2
open PySem PySem.Spec PyProof.Rows PySem.W
section
variable {prog:Program}{w:World}{A:Around}{E:Value->Shared->Prop}{s:Shared}{K:Frag}{x C:Addr}{ox:Obj}{od:Option Obj}{name:Str}{v:Value}
end
section
variable {X:Cx}{pos p:Pos}
end
end L2
namespace L2
open PySem PySem.Spec PyProof.Rows
section
variable {X:Cx}{e:Expr}{es rest:List Expr}{k k':Nat}{x:Str}{ps:List Str}{sp:DSp}{t:DTP}{p cpos:Pos}
end
section
variable {X:Cx}
variable {o e:Expr}{to te:DTE}{apos cpos:Pos}
end
section
variable {X:Cx}{pos p:Pos}
end
section
variable {X:Cx}{e:Expr}{pos p:Pos}
def insL{α:Type}(k:Int)(y:α)(xs:List α):List α:=xs.take k.toNat++y::xs.drop k.toNat
end
section
variable {X:Cx}{a b c d:Expr}{ta tb tc td:DTE}{pos:Pos}
end
section
variable {X:Cx}
def zxs(X:Cx)(t:DTS):TS:=λE σ H=>∃σD Dn,DOk X.K X.H₀ H σD σ/\t Dn σD/\(∀σ' H' σD',DOk X.K X.H₀ H' σD' σ'->Pers H H'->Dn.nx σD'->E.nx σ' H')/\(∀v H' r,Same X.H₀ H'->zia X.K X.H₀ H' r v->Dn.rt r->E.rt v H') /\
 (∀σ' H' σD',DOk X.K X.H₀ H' σD' σ'->Pers H H'->Dn.bk σD'->E.bk σ' H')/\∀σ' H' σD',DOk X.K X.H₀ H' σD' σ'->Pers H H'->Dn.ct σD'->E.ct σ' H'
theorem DSXs.ps{sts:List Stmt}{t:DTS}(h:DSXs X sts t):PSs X sts (zxs X t):=λpins s σ H E I ⟨σD,Dn,ok,q,k1,k2,k3,k4⟩=>thn (h.run pins s σ H σD Dn I ok q) λf s' z=>by
 cases f with
 |next=>obtain⟨a,b,c,e1,e2,e3,e4⟩:=z;exact⟨a,b,e1,k1 a b c e2 e3 e4⟩
 |brk=>obtain⟨a,b,c,e1,e2,e3,e4⟩:=z;exact⟨a,b,e1,k3 a b c e2 e3 e4⟩
 |cont=>obtain⟨a,b,c,e1,e2,e3,e4⟩:=z;exact⟨a,b,e1,k4 a b c e2 e3 e4⟩
 |ret u=>obtain⟨v,a,b,r,e1,e2,e3,e4,e5⟩:=z;exact⟨v,a,b,e1,e2,k2 v b r e3 e4 e5⟩
theorem DSX.of{st:Stmt}{t:DTS}{t':TS}(h:PS X st t')(k:∀σ H σD Dn,DOk X.K X.H₀ H σD σ->t Dn σD->t' (zm7 X.K X.H₀ H Dn) σ H):DSX X st t :=
 ⟨λpins s σ H σD Dn I ok q=>thn (h pins s σ H _ I (k σ H σD Dn ok q)) λ_ _ z=>z.dsp⟩
end
section
variable {X:Cx}{pins:List (Addr×Obj)}{σ:St}{H:Hp}{s:Shared}
end
end L2
namespace PySem
section
variable {prog:Program}{w:World}{A:Around}{E:Value->Shared->Prop}{s:Shared}
theorem zcx{l:Addr}{items:Array Value}{ns:List Int}{Q:Value->Shared->Prop}
  (hh:A.handled=none) (hl:s.heap.IsList l items) (hi:PyProof.Rows.IntsAre items.toList ns) (hb:items.size+1<scanBound)
  (h:∀(h':Heap) (tk:Nat),h'.SetV (intKind prog w) s.heap.objs.size (λk'=>(PyProof.Rows.firstMet (λi=>ns.getD i 0) items.size).any (· == k')) (PyProof.Rows.firstMet (λi=>ns.getD i 0) items.size).length ->
   (∀b o,b<s.heap.objs.size->s.heap.get? b=some o->h'.get? b=some o)->Q (.ref s.heap.objs.size) { s with heap:=h',toks:=tk }) :
  wpAny (model prog w) A (call (.type "set") [.ref l]) Q E s:=by
 obtain⟨c,tl,hmro⟩:=F.called_set.mro;have hmade:=F.called_set.made;have hsub:=F.called_set.sub;refine wpAny_call (codeAny_of_tree ?_);show wpAny _ _ (callAny (.type "set") _) _ _ _;refine wpAny_pure ⟨Code.quiet_builtin _ (by decide +kernel),codeAny_builtin F.entry_type_call ?_⟩;rw[Around.under_plain (weight_type_call_type "set" [.ref l] []) rfl];have h1:=F.called_set.notType;have h2:=F.called_set.canCreate;have hct:=F.typeCall_set_1 (.ref l)
 repeat (any_goals (first|assumption|wp_step))
 refine codeAny_mono (qp (.ref l) (E:=E) (Q₁:=λobj s₁=>∃led:Bool,led = !w.params.followText "set-order" /\ obj=.ref s.heap.objs.size/\s₁ = { s with heap:=s.heap.push { cls:=.type "set",dict:=none,data:=.set #[] 0 (.fresh 0 0 led) } }) ⟨_,rfl,rfl,rfl⟩) λr s₁ hr=>?_
 cases r with
 |error e=>exact hr
 |ok fl=>
  cases fl with
  |ret obj=>
   obtain⟨led,hled,rfl,rfl⟩:=hr;have hS:(s.heap.push { cls:=.type "set",dict:=none,data:=.set #[] 0 (.fresh 0 0 led) }).get? s.heap.objs.size=some { cls:=.type "set",dict:=none,data:=.set #[] 0 (.fresh 0 0 led) }:=Heap.get?_push_size _ rfl;have hT:Shared.TypeIs { s with heap:=s.heap.push { cls:=.type "set",dict:=none,data:=.set #[] 0 (.fresh 0 0 led) } } (.ref s.heap.objs.size) "set" :=⟨_,hS,rfl⟩
   have hli:=F.called_set.init.lookup;have hbi:=F.called_set.init.bind (.ref s.heap.objs.size)
   repeat (any_goals (first|assumption|wp_step))
   refine codeAny_mono (codeAny_call_builtin (R:=wants (λr s₂=>r=.none/\∃h' tk,s₂ = { s with heap:=h',toks:=tk } /\
     h'.SetV (intKind prog w) s.heap.objs.size (λk'=>(PyProof.Rows.firstMet (λi=>ns.getD i 0) items.size).any (· == k')) (PyProof.Rows.firstMet (λi=>ns.getD i 0) items.size).length /\
     (∀b o,b<s.heap.objs.size->s.heap.get? b=some o->h'.get? b=some o)) E) F.called_set.init.plain F.entry_set_init (check_set_init_1 hT ?_)) λr₂ s₂ hr₂=>?_
   ·obtain⟨ol,hol,hcl,nl,hdl⟩:=hl;obtain⟨ocls,odict,odata,oslots⟩:=ol;simp only at hcl hdl;subst hcl;subst hdl;have hol':(s.heap.push { cls:=.type "set",dict:=none,data:=.set #[] 0 (.fresh 0 0 led) }).get? l=some { cls:=.type "list",dict:=odict,data:=.seq items nl,slots:=oslots }:=Heap.get?_push_of_some _ hol;have hsls:=F.sub_list_set;have hslf:=F.sub_list_frozenset;have hne:(Value.type "list" == Value.type "dict")=false:=by decide
    have hl1:(s.heap.push { cls:=.type "set",dict:=none,data:=.set #[] 0 (.fresh 0 0 led) }).IsList l items:=⟨_,hol',rfl,nl,rfl⟩
    unfold Builtin.«set.__init__» noKeywords Builtin.Frozenset.updateFrom;generalize hPI:pyIter=PI
    wp_walk
    subst hPI;refine wpAny_pyIter_list hl1 ?_;refine wpAny_bind (wpAny_runValue ?_);have hlS:l<s.heap.objs.size:=Heap.lt_size hol;have hh3:A.in1.in1.in1.handled=none:=by simp[hh]
    have hneI:l≠(s.heap.push { cls:=.type "set",dict:=none,data:=.set #[] 0 (.fresh 0 0 led) }).objs.size:=by
     rw[Heap.size_push];exact Nat.ne_of_lt (Nat.lt_succ_of_lt hlS)
    have hSf:s.heap.objs.size ∉ [(s.heap.push { cls:=.type "set",dict:=none,data:=.set #[] 0 (.fresh 0 0 led) }).objs.size,l]:=by
     rw[Heap.size_push];simp only[List.mem_cons,List.mem_singleton,List.not_mem_nil,or_false,not_or];exact⟨Nat.ne_of_lt (Nat.lt_succ_self _),Nat.ne_of_gt hlS⟩
    have hval:∀(i:Nat) (v:Value),items[i]?=some v->∃t,v=.int ((λi=>ns.getD i 0) i) t:=λi v hv=>
     PyProof.Rows.IntsAre.int_at hi i v (by rw[Array.getElem?_toList];exact hv)
    refine w5 ((Walks.list hh3 _ l hneI items).toS) s.heap.objs.size
     hSf (λi=>ns.getD i 0) hval hb (items.size-0) 0 _ (by omega) (Nat.zero_le _)
     ⟨⟨_,Heap.get?_push_size _ rfl,rfl,rfl⟩,(hl1.push _)⟩ ?hS0 ?hR
    case hS0=>
     have hget:((s.heap.push { cls:=.type "set",dict:=none,data:=.set #[] 0 (.fresh 0 0 led) }).push { cls:=.type "list_iterator",data:=.fields #[.ref l,.int 0 0] }).get? s.heap.objs.size
       = some { cls:=.type "set",dict:=none,data:=.set #[] 0 (.fresh 0 0 led) }:=Heap.get?_push_of_some _ hS
     exact⟨_,#[],0,_,hget,⟨rfl,rfl,rfl⟩,rfl,λe he=>by simp at he,λk=>by simp[PyProof.Rows.firstMet],by decide,by rfl,rfl,⟨List.Pairwise.nil,hled⟩⟩
    case hR=>
     intro s' hm hS';obtain⟨h',g',d',tk',os'⟩:=s';have eg:g'=s.gens:=hm.gens;have ed:d'=s.drawn:=hm.drawn;have eo:os'=s.os:=hm.os;subst eg;subst ed;subst eo;show wpAny _ _ _ _ _ _;refine wpAny_pure ?_;show wpAny _ _ (ret Value.none) _ _ _;refine wpAny_pure ⟨rfl,h',tk',rfl,hS',λb o hb e=>?_⟩;have hb1:b≠s.heap.objs.size:=Nat.ne_of_lt hb;have hb2:b≠(s.heap.push { cls:=.type "set",dict:=none,data:=.set #[] 0 (.fresh 0 0 led) }).objs.size:=by
      rw[Heap.size_push];exact Nat.ne_of_lt (Nat.lt_succ_of_lt hb)
     exact hm.heap b o (by simp only[List.mem_cons,List.mem_singleton,List.not_mem_nil,or_false,not_or];exact⟨hb1,hb2⟩) (Heap.get?_push_of_some _ (Heap.get?_push_of_some _ e))
   ·cases r₂ with
    |error e=>exact hr₂
    |ok fl₂=>
     cases fl₂ with
     |ret r=>
      obtain⟨rfl,h',tk,rfl,hS',hk'⟩:=hr₂
      repeat (any_goals (first|assumption|wp_step))
      exact h _ _ hS' hk'
     |_=>exact hr₂.elim
  |_=>exact hr.elim
end
end PySem
namespace L2
open PySem PySem.Spec PyProof.Rows SQ
section
variable {X:Cx}{a:Expr}{p pos p2 pos2:Pos}
end
end L2
namespace L2
open PySem PySem.Spec PyProof.Rows
section
variable {X:Cx}{pos p:Pos}
end
section
variable {prog:Program}{w:World}{A:Around}{R:Result->Shared->Prop}{s:Shared}{elt t1 i1 t2 i2:Expr}{f1 f2:List Expr}{scope:Scope}{pos:Pos}{it acc:Value}{env:Env}
end
section
variable {X:Cx}
end
section
variable {K:PySem.W.Frag}{H₀ H H':Hp}
end
section
variable {X:Cx}{elt tg iter t2 i2:Expr}{ifs ifs2:List Expr}{scope:Scope}{pos:Pos}{cl:List (Str×Addr)}{N' capt:List Str}{k:Nat}{js is is2:List Nat}{ti ti2:DTF}{g g2:DTG}{tt tt2:DTT}{te:DTE}
end
section
variable {X:Cx}
variable {elt tg iter t2 i2:Expr}{ifs ifs2:List Expr}{scope:Scope}{pos:Pos}{cl:List (Str×Addr)}{N' capt:List Str}{k:Nat}{js is is2:List Nat}{ti ti2:DTF}{g g2:DTG}{tt tt2:DTT}{te:DTE}
end
section
variable {X:Cx}{e:Expr}{es:List Expr}{pos:Pos}{i j:Nat}{sp:zct}{t:zcu}
end
section
variable {K:PySem.W.Frag}{H₀ H Hb H':Hp}{σD:DSt}{σ:St}
end
section
variable {X:Cx}{elt tg iter:Expr}{ifs:List Expr}{scope:Scope}{pos:Pos}{cl:List (Str×Addr)}{N' capt:List Str}{k:Nat}{js is:List Nat}{ti:DTF}{g:DTG}{tt:DTT}{sp:zct}{t:zcu}
end
section
variable {X:Cx}
variable {o e:Expr}{to te:DTE}{apos cpos:Pos}
end
end L2
namespace SQ
open PySem PyProof.Rows
set_option autoImplicit false
def zxt(h:Heap)(v:Value)(is:List Int):Prop:=∃a its n t u js,v=.ref a/\IsTup h a its/\its.toList = [.int n t,u]/\RefIs h u js/\is=n::js
open Classical in
noncomputable def zxu (h:Heap) (v:Value):Option (List Int):=if x:∃is,zxt h v is then some x.choose else none
@[reducible] noncomputable def prK (h:Heap):KeyKind:={ zcr h with keyOf:=λv=>zxu h v }
section
variable {prog:Program}{w:World}{A:Around}{E:Value->Shared->Prop}{s:Shared}
theorem items_int{vs:List Value}{ns:List Int}(h:IntsAre vs ns):ItemsAre (intKind prog w) ns vs:=by
 induction h with
 |nil=>exact .nil
 |cons n t h ih=>exact .cons (by simp[intKind,Value.isInt]) ih
theorem All2.perm{α β:Type}{R:α->β->Prop}{as' as:List α}(p:as'.Perm as):∀{bs:List β},All2 R as bs->∃bs',All2 R as' bs'/\bs'.Perm bs:=by
 induction p with
 |nil=>intro bs h;exact⟨bs,h,.refl _⟩
 |cons x p ih=>
  intro bs h
  cases h with
  |cons h t=>
   obtain⟨bs',h',p'⟩:=ih t;exact⟨_,.cons h h',p'.cons _⟩
 |swap x y l=>
  intro bs h
  cases h with
  |cons h t=>
   cases t with
   |cons h2 t=>exact⟨_,.cons h2 (.cons h t),.swap _ _ _⟩
 |trans p1 p2 ih1 ih2=>
  intro bs h;obtain⟨b1,h1,q1⟩:=ih2 h;obtain⟨b2,h2,q2⟩:=ih1 h1;exact⟨b2,h2,q2.trans q1⟩
end
end SQ
namespace L2
open PySem PySem.Spec PyProof.Rows SQ
def kL(l:Int×List Int):List Int:=l.1::l.2
section
variable {X:Cx}{pins:List (Addr×Obj)}{σ:St}{H:Hp}{s:Shared}
end
end L2
namespace L2
open PySem PySem.Spec PyProof.Rows SQ
section
variable {X:Cx}{pins:List (Addr×Obj)}{σ:St}{H:Hp}{s:Shared}
end
section
variable {X:Cx}{a body:Expr}{ta:DTF}{tb:DTE}{p pos kp lp:Pos}{k:Nat}{P c:Addr}{q y:Str}{params:Arguments}{scope:Scope}{N:List Str}
end
end L2
namespace PySem.AutoSeq1
open PySem.MeetsSeq PySem.MeetsSeq2 PySem.MeetsSeq3
end PySem.AutoSeq1
namespace L2
open PySem PySem.Spec PyProof.Rows
section
variable {X:Cx}{e:Expr}{te:DTE}{pos:Pos}
end
section
variable {X:Cx}
end
section
variable {K:PySem.W.Frag}{H:Hp}
end
section
variable {X:Cx}{tk te:DTE}{pos:Pos}
end
section
variable {X:Cx}{tk te:DTE}{pos:Pos}
end
theorem KV.at{κ:Type}:∀{vs:List (κ×V)}{ws:List (κ×Value)}{i:Nat}{k:κ}{v:V},KV vs ws->vs[i]?=some (k,v)->∃u,ws[i]?=some (k,u)
 |[],_,_,_,_,_,e=>by simp at e
 |p::vs,ws,i,k,v,h,e=>by
  cases h with
  |cons r t=>
   cases i with
   |zero=>
    simp at e;subst e
    rename_i b l
    obtain⟨k',u⟩:=b;have z:k=k':=r.1;subst z;exact⟨u,rfl⟩
   |succ i=>
    obtain⟨u,hu⟩:=KV.at t (show vs[i]?=some (k,v) by simpa using e);exact⟨u,by simpa using hu⟩
section
variable {X:Cx}{pins:List (Addr×Obj)}{σ:St}{H:Hp}{s:Shared}{a:Addr}{o:Obj}
end
section
variable {X:Cx}{tg:Expr}
theorem RepK.at{K:PySem.W.Frag}{H:Hp}:∀{kvs:List (D×D)}{vs:List (Key×V)}{i:Nat}{d:D},RepK K H kvs vs->(kvs.map (·.1))[i]?=some d->∃k v,vs[i]?=some (k,v)/\d=kD k
 |_,_,i,d,.nil,e=>by simp at e
 |_,_,i,d,.cons (k:=k) (v:=v) r t,e=>by
  cases i with
  |zero=>simp at e;exact⟨k,v,rfl,e.symm⟩
  |succ i=>
   obtain⟨k',v',h1,h2⟩:=RepK.at t (i:=i) (by simpa using e);exact⟨k',v',by simpa using h1,h2⟩
theorem RepK.len{K:PySem.W.Frag}{H:Hp}:∀{kvs:List (D×D)}{vs:List (Key×V)},RepK K H kvs vs->kvs.length=vs.length
 |_,_,.nil=>rfl
 |_,_,.cons r t=>by rw[List.length_cons,List.length_cons,RepK.len t]
end
section
variable {K:PySem.W.Frag}{H₀ H:Hp}{σD:DSt}{σ:St}
def dP(ks:List (Key×D)):List (D×D):=ks.map λp=>(kD p.1,p.2)
theorem ztx{a b:Key}(h:kD a=kD b):a=b:=by
 cases a <;> cases b <;> simp[kD]at h <;> rw[h]
theorem RepK.kv:∀{ks:List (Key×D)}{vs:List (Key×V)},RepK K H (dP ks) vs->RepKV K H ks vs
 |[],vs,h=>by cases h;exact RepKV.nil'
 |(k,d)::ks,vs,h=>by
  generalize hg:dP ((k,d)::ks)=l at h
  cases h with
  |nil=>cases hg
  |cons r t=>
   simp only[dP,List.map_cons,List.cons.injEq,Prod.mk.injEq]at hg;obtain⟨⟨h1,rfl⟩,rfl⟩:=hg
   cases ztx h1;exact RepKV.cons r (RepK.kv t)
end
section
variable {X:Cx}
end
section
variable {X:Cx}{o:Expr}{td:TE}{p pos apos cpos:Pos}
end
section
variable {prog:Program}{w:World}{A:Around}{E:Value->Shared->Prop}
variable {κ:Type}[DecidableEq κ]{knd:KeyKind prog w κ}
end
section
variable {X:Cx}{e:Expr}{p pos:Pos}
end
section
variable {X:Cx}
end
section
variable {X:Cx}{a:Expr}{te:DTE}{p pos:Pos}
end
structure zyd(K:PySem.W.Frag)(mg:Str->Option Value)(c:Str)(C:Addr)(fs:List Str):Prop where
 m:mg c=some (.ref C)
 n:PySem.W.nsIn K mainGlobals c=some (some (.ref C))
 c:Cls K C
 f:∀f∈fs,zse K C f
section
variable {X:Cx}{e e2:Expr}{es:List Expr}{te:DTE}{t:DTP}{pos:Pos}{c f m x:Str}{C g:Addr}{i j k k':Nat}{ps fs:List Str}{sp:zct}{tg:zcu}
end
section
variable {X:Cx}
end
section
variable {X:Cx}{tg:Expr}{a b c:Expr}{p p2 pos pos2:Pos}{t:DTF}
section
variable {prog:Program}{w:World}{A:Around}{E:Value->Shared->Prop}{s:Shared}
end
end
section
open PySem.Builtin PySem.Builtin.Str
end
section
variable {X:Cx}{e:Expr}{es:List Expr}{pos:Pos}
structure DEk(X:Cx)(e:Expr)(t:DTE):Prop where
 run:∀(pins:List (Addr×Obj)) (s:Shared) (σ:St) (H H₀:Hp) (σD:DSt) (Q:D->Prop),1<=s.toks->Inv X pins σ H s->DOk X.K H₀ H σD σ->t σD Q->wpAny (model X.prog X.w) X.A (eval e X.env) (DEnd X pins σ H Q) X.xe s
structure DVk(X:Cx)(e:Expr)(t:DTE):Prop where
 run:∀(pins:List (Addr×Obj)) (s:Shared) (σ:St) (H H₀:Hp) (σD:DSt) (Q:D->Prop),1<=s.toks->Inv X pins σ H s->DOk X.K H₀ H σD σ->t σD Q->wpAny (model X.prog X.w) X.A (eval e X.env) (zq9 X pins σ H Q) X.xe s
structure DFk(X:Cx)(e:Expr)(t:DTF):Prop where
 run:∀(pins:List (Addr×Obj)) (s:Shared) (σ:St) (H H₀:Hp) (σD:DSt) (Q:List D->Prop),1<=s.toks->Inv X pins σ H s->DOk X.K H₀ H σD σ->t σD Q->wpAny (model X.prog X.w) X.A (eval e X.env) (zci X pins σ H Q) X.xe s
structure DAk(X:Cx)(es:List Expr)(t:DTF):Prop where
 run:∀(pos:Pos) (pins:List (Addr×Obj)) (s:Shared) (σ:St) (H H₀:Hp) (σD:DSt) (Q:List D->Prop),1<=s.toks->Inv X pins σ H s->DOk X.K H₀ H σD σ->t σD Q ->
  wpAny (model X.prog X.w) X.A (spliced (backTo pos (starEach es X.env))) (λus s'=>∃vs H' ds,Inv X pins σ H' s'/\Vals vs us/\Same H H'/\Reps X.K H' ds vs/\Q ds) X.xe s
structure DSk(X:Cx)(st:Stmt)(t:DTS):Prop where
 run:∀(pins:List (Addr×Obj)) (s:Shared) (σ:St) (H H₀:Hp) (σD:DSt) (Dn:wv),1<=s.toks->Inv X pins σ H s->DOk X.K H₀ H σD σ->t Dn σD->wpAny (model X.prog X.w) X.A (exec st X.env) (DSP X pins H₀ H Dn) X.xe s
structure zxv(X:Cx)(st:List Stmt)(t:DTS):Prop where
 run:∀(pins:List (Addr×Obj)) (s:Shared) (σ:St) (H H₀:Hp) (σD:DSt) (Dn:wv),1<=s.toks->Inv X pins σ H s->DOk X.K H₀ H σD σ->t Dn σD->wpAny (model X.prog X.w) X.A (execs st X.env) (DSP X pins H₀ H Dn) X.xe s
theorem DS.k{st:Stmt}{t:DTS}(h:DS X st t):DSk X st t:=⟨λpins s σ H H₀ σD Dn _ I ok q=>h.run pins s σ H H₀ σD Dn I ok q⟩
theorem DSs.k{st:List Stmt}{t:DTS}(h:DSs X st t):zxv X st t:=⟨λpins s σ H H₀ σD Dn _ I ok q=>h.run pins s σ H H₀ σD Dn I ok q⟩
end
section
variable {X:Cx}{pins:List (Addr×Obj)}{σ:St}{H:Hp}{s:Shared}{P c:Addr}{q:Str}
end
section
variable {X:Cx}{pins:List (Addr×Obj)}{σ:St}{H:Hp}{a it S f:Addr}{xs:List V}{kf:Nat->Int}{kwd:List (Str×Value)}{R:Value->Shared->Prop}
structure zye(X:Cx)(pins:List (Addr×Obj))(σ:St)(H:Hp)(a it S:Addr)(xs:List V)(kf:Nat->Int)(j i:Nat)(H1:Hp)(s:Shared):Prop where
 I:Inv X pins σ H1 s
 sm:Same H H1
 st:s.heap.IsListIter it a j
 f1:FpOk X pins H1 it
 f2:FpOk X pins H1 S
 ne:it≠S
 best:∃vb tb c x,s.heap.get? S=some (seqObj "list" #[vb,.int (kf i) tb] c)/\xs[i]?=some x/\RelV x vb
 lt:i<j
 mx:∀j',j' < j->kf i<=kf j'/\(j' < i->kf i<kf j')
end
section
variable {X:Cx}{pins:List (Addr×Obj)}{σ:St}{H:Hp}{a f:Addr}{xs:List V}{kf:Nat->Int}{R:Value->Shared->Prop}{s:Shared}
end
structure zv6(y n:Str)(sc:Scope):Prop where
 kind:sc.kind=.function
 co:sc.isCoroutine=false
 gen:sc.isGenerator=false
 ne:y≠n
 loc:sc.names.lookup y=some .local
 fre:sc.names.lookup n=some .free
 only:∀x∈sc.names,x.2 ≠ .cell/\(x.2=.free->x.1=n)
section
variable {X:Cx}{a body:Expr}{ta:DTF}{tb:DTE}{p pos kp kp2 lp cp:Pos}{k:Nat}{P c:Addr}{q y n:Str}{params:Arguments}{scope:Scope}
end
end L2
namespace SQ
open PySem PyProof.Rows
set_option autoImplicit false
abbrev ipK(p:Int×Str):List Int:=p.1::p.2.cps.toList.map λn:Nat=>(n:Int)
def RefP(h:Heap)(v:Value)(p:Int×Str):Prop:=∃a t u,v=.ref a/\IsTup h a #[.int p.1 t,.str p.2 u]
theorem RefP.keep{h h':Heap}{v:Value}{p:Int×Str}(k:∀b o,h.get? b=some o->h'.get? b=some o)(x:RefP h v p):RefP h' v p:=by
 obtain⟨a,t,u,e,i⟩:=x;exact⟨a,t,u,e,i.keeps k⟩
noncomputable def zqa (h:Heap) (v:Value):Option (List Int):=@dite _ (∃p,RefP h v p) (Classical.propDecidable _) (λx=>some (ipK x.choose)) (λ_=>none)
@[reducible] noncomputable def zx6 (h:Heap):KeyKind where
 α:=List Int
 blt a b:=decide (a<b)
 irrefl a:=by simpa using List.lt_irrefl a
 trans a b c h1 h2:=by simp only[decide_eq_true_eq]at *;exact List.lt_trans h1 h2
 negTrans a b c h:=by
  simp only[decide_eq_true_eq]at *
  by_cases c:a<b
  ·exact .inl c
  ·exact .inr (List.lt_of_le_of_lt (List.not_lt.mp c) h)
 total a b h1 h2:=by simp only[decide_eq_false_iff_not]at *;exact List.le_antisymm (List.not_lt.mp h2) (List.not_lt.mp h1)
 keyOf v:=zqa h v
 dflt:=[]
section
variable {prog:Program}{w:World}{A:Around}{E:Value->Shared->Prop}{s:Shared}
end
end SQ
namespace L2
open PySem PySem.Spec PyProof.Rows SQ
section
variable {X:Cx}
end
end L2
namespace L2
open PySem PySem.Spec PyProof.Rows
section
variable {X:Cx}{o:Expr}{td:TE}{p pos:Pos}
end
section
variable {X:Cx}
end
section
variable {X:Cx}
end
section
variable {P:Program}{w:World}{K:PySem.W.Frag}{mg:Str->Option Value}{base:Heap}{N:List Str}{qual:Str}{scope:Scope}{f:Addr}{cd:Value}{A:Around}{outer:List Env}{s:Shared}{H:Hp}{E:XK}
end
end L2
namespace L2
open PySem PySem.Spec PyProof.Rows SQ
section
variable {X:Cx}{a:Expr}{p pos p2 pos2:Pos}
end
end L2
namespace L2
open PySem PySem.Spec PyProof.Rows
section
variable {X:Cx}{e:Expr}{i:Nat}{te:DTE}{sp:zct}{t:zcu}{pos:Pos}
end
section
variable {X:Cx}{e f:Expr}{es:List Expr}{te tf:DTE}{tl ta:DTF}{pos pos' p1 p2:Pos}
theorem DOk.tk{K:PySem.W.Frag}{H H₀:Hp}{σD:DSt}{σ:St}{j:Nat}{ks:List Key}(ok:DOk K H₀ H σD σ)(e:σD[j]?=some (some (.own (.tk ks)))):∃b,σ[j]?=some (some (.ref b))/\H b=some (.tup (ks.map kV)):=by
 obtain⟨v,f,ev,rO,_⟩:=ok.focus e;obtain⟨b,rfl,rfl,h⟩:=rO;exact⟨b,ev,h⟩
theorem DOk.dcT{K:PySem.W.Frag}{H H₀:Hp}{σD:DSt}{σ:St}{i:Nat}{xs:List (List Key×D)}(ok:DOk K H₀ H σD σ)(e:σD[i]?=some (some (.own (.dcT xs)))):
  ∃a vs,σ[i]?=some (some (.ref a))/\H a=some (.dT vs)/\RepKV K H xs vs/\∀ys ws,RepKV K H ys ws->DOk K H₀ (upd H a (.dT ws)) (clr (σD.set i (some (.own (.dcT ys))))) σ/\Pers H (upd H a (.dT ws)):=by
 obtain⟨v,f,ev,rO,nf,fr,put⟩:=ok.focus e;obtain⟨a,vs,rfl,rfl,ea,r⟩:=rO;refine⟨a,vs,ev,ea,r,λys ws r2=>put (upd H a (.dT ws)) (.dcT ys) [a] (λb u hb hu=>by rw[zv (λz=>hb (by rw[z];exact List.mem_cons_self))];exact hu) nf (λb hb=>.inl hb) ⟨a,ws,rfl,rfl,zx,r2.1,r2.2.mono (wn ea rfl)⟩⟩
end
end L2
namespace PySem
open Sem (wp)
def VAt(h:Heap)(a:Addr)(us:List Value)(ep:Nat):Prop:=∃o es,h.get? a=some o/\o.ExactDict/\o.data=.dict es ep/\es.toList.map (·.val)=us
theorem VAt.at{h h':Heap}{a us ep}(x:VAt h a us ep)(e:∀o,h.get? a=some o->h'.get? a=some o):VAt h' a us ep:=let ⟨o,es,ho,r⟩:=x;⟨o,es,e _ ho,r⟩
theorem VAt.typeIs{s:Shared}{a us ep}(x:VAt s.heap a us ep):s.TypeIs (.ref a) "dict" := let ⟨o,_,ho,hc,_⟩:=x;⟨o,ho,hc.1⟩
section
variable {prog:Program}{w:World}{A:Around}{E:Value->Shared->Prop}{s:Shared}
end
namespace W
section
variable {prog:Program}{w:World}{d r:Addr}{kvs:List Value}{ep:Nat}
end
end W
end PySem
namespace L2
open PySem PySem.Spec PyProof.Rows
section
variable {X:Cx}{o:Expr}{td:TE}{p pos apos cpos:Pos}
end
end L2
namespace L2
open PySem PySem.Spec PyProof.Rows SQ
section
variable {X:Cx}{pins:List (Addr×Obj)}{σ:St}{H:Hp}{s:Shared}
end
section
variable {X:Cx}{a body:Expr}{ta:DTF}{tb:DTE}{p pos p2 pos2 kp lp:Pos}{k:Nat}{P c:Addr}{q y n:Str}{params:Arguments}{scope:Scope}
end
end L2
namespace PySem
namespace SeqAt
open AutoSeq1 (wpAny_loadPart')
end SeqAt
end PySem
namespace L2
open PySem PySem.Spec PyProof.Rows
section
variable {X:Cx}
variable {o e:Expr}{to te:DTE}{apos cpos:Pos}
end
end L2
namespace SQ
open PySem PyProof.Rows
open AutoSeq1 (wpAny_loadPart')
end SQ
namespace L2
open PySem PySem.Spec PyProof.Rows SQ
section
variable {X:Cx}{pins:List (Addr×Obj)}{σ:St}{H:Hp}{a it S:Addr}{xs:List V}{ls:List (Int×List Int)}{R:Value->Shared->Prop}
structure zyf(X:Cx)(pins:List (Addr×Obj))(σ:St)(H:Hp)(a it S:Addr)(xs:List V)(ls:List (Int×List Int))(j i:Nat)(s:Shared):Prop where
 I:Inv X pins σ H s
 st:s.heap.IsListIter it a j
 f1:FpOk X pins H it
 f2:FpOk X pins H S
 ne:it≠S
 best:∃vb c x,s.heap.get? S=some (seqObj "list" #[vb,vb] c)/\xs[i]?=some x/\RelV x vb
 lt:i<j
 mx:∀(j':Nat) l l',j' < j->ls[i]?=some l->ls[j']?=some l'->¬ kL l' < kL l
end
end L2
namespace L2
open PySem PySem.Spec PyProof.Rows
section
variable {X:Cx}{o i e f k v:Expr}{te tf:DTE}{tk tv td ty:TE}{pos pos' p1 p2:Pos}
end
end L2
namespace PySem
open Sem (wp)
def KyAt(h:Heap)(a:Addr)(us:List Value)(ep:Nat):Prop:=∃o es,h.get? a=some o/\o.ExactDict/\o.data=.dict es ep/\es.toList.map (·.key)=us
theorem KyAt.typeIs{s:Shared}{a us ep}(x:KyAt s.heap a us ep):s.TypeIs (.ref a) "dict" := let ⟨o,_,ho,hc,_⟩:=x;⟨o,ho,hc.1⟩
section
variable {prog:Program}{w:World}{A:Around}{E:Value->Shared->Prop}{s:Shared}
end
end PySem
namespace L2
open PySem PySem.Spec PyProof.Rows
section
variable {X:Cx}
end
section
variable {X:Cx}{e k:Expr}{es:List Expr}{te:DTE}{ta:DTF}{pos pos' p1 p2:Pos}
end
section
variable {X:Cx}{pins:List (Addr×Obj)}{σ:St}{H:Hp}{s:Shared}{a:Addr}
theorem DOk.fzT{K:PySem.W.Frag}{H₀:Hp}{σD:DSt}{i:Nat}{ks:List (List Key×D)}(ok:DOk K H₀ H σD σ)(e:σD[i]?=some (some (.own (.fzT ks)))):∃a o vs,σ[i]?=some (some (.ref a))/\H a=some (.frz o (.dT vs))/\RepKV K H ks vs:=by
 obtain⟨v,f,ev,rO,_⟩:=ok.focus e;obtain⟨a,o,vs,rfl,rfl,ea,r⟩:=rO;exact⟨a,o,vs,ev,ea,r⟩
end
section
variable {X:Cx}{e:Expr}{st:Stmt}{t:DTS}{te:DTE}{tg:Expr}{pos pos' p1 p2:Pos}
theorem KT.at{H:Hp}:∀{vs:List (List Key×V)}{xs:List (List Key×Addr×Value)}{i:Nat}{k:List Key}{v:V},KT H vs xs->vs[i]?=some (k,v)->∃b u,xs[i]?=some (k,b,u)/\H b=some (.tup (k.map kV))
 |[],_,_,_,_,_,e=>by simp at e
 |p::vs,xs,i,k,v,h,e=>by
  cases h with
  |@cons p' q' ps qs r t=>
   cases i with
   |zero=>
    simp at e;subst e;obtain⟨k',b,u⟩:=q';obtain⟨z1,z2,_⟩:=r;have z1':k=k':=z1;subst z1';exact⟨b,u,rfl,z2⟩
   |succ i=>
    obtain⟨b,u,hu,hb⟩:=KT.at t (show vs[i]?=some (k,v) by simpa using e);exact⟨b,u,by simpa using hu,hb⟩
end
section
variable {X:Cx}{pins:List (Addr×Obj)}{σ:St}{H:Hp}{s:Shared}{a p:Addr}{A:Around}{E:Value->Shared->Prop}
end
section
variable {X:Cx}{pos p1 p2:Pos}
end
abbrev zqb:=DSt->(D->DSt->Prop)->Prop
abbrev zty:=DSt->(Bool->DSt->Prop)->Prop
structure DEG(X:Cx)(e:Expr)(t:zqb):Prop where
 run:∀(pins:List (Addr×Obj)) (s:Shared) (σ:St) (H H₀:Hp) (σD:DSt) (Q:D->DSt->Prop),Inv X pins σ H s->DOk X.K H₀ H σD σ->t σD Q ->
  wpAny (model X.prog X.w) X.A (eval e X.env) (λu s'=>∃v H' d σD',Inv X pins σ H' s'/\RelV v u/\Pers H H'/\DOk X.K H₀ H' σD' σ/\Rep X.K H' d v/\Q d σD') X.xe s
structure DTX(X:Cx)(e:Expr)(t:zty):Prop where
 run:∀(pins:List (Addr×Obj)) (s:Shared) (σ:St) (H H₀:Hp) (σD:DSt) (Q:Bool->DSt->Prop),Inv X pins σ H s->DOk X.K H₀ H σD σ->t σD Q ->
  wpAny (model X.prog X.w) X.A (isTrue e X.env (eval e X.env)) (λb s'=>∃H' σD',Inv X pins σ H' s'/\Pers H H'/\DOk X.K H₀ H' σD' σ/\Q b σD') X.xe s
structure DWX(X:Cx)(e:Expr)(t:zty):Prop where
 run:∀(whole:Sem Value) (pins:List (Addr×Obj)) (s:Shared) (σ:St) (H H₀:Hp) (σD:DSt) (Q:Bool->DSt->Prop),Inv X pins σ H s->DOk X.K H₀ H σD σ->t σD Q ->
  wpAny (model X.prog X.w) X.A (isTrue e X.env whole) (λb s'=>∃H' σD',Inv X pins σ H' s'/\Pers H H'/\DOk X.K H₀ H' σD' σ/\Q b σD') X.xe s
section
variable {X:Cx}{e a b:Expr}{es rest:List Expr}{te:DTE}{ta tb:zqb}{tx ty:zty}{pos p:Pos}{i:Nat}{sp:zct}{t:zcu}
theorem DEG.of{t':TE}(h:PE X e t')(k:∀σ H H₀ σD QD,DOk X.K H₀ H σD σ->ta σD QD->t' σ H (λv H'=>∃d σD',Pers H H'/\DOk X.K H₀ H' σD' σ/\Rep X.K H' d v/\QD d σD')):DEG X e ta :=
 ⟨λpins s σ H H₀ σD Q I ok q=>thn (h pins s σ H _ I (k σ H H₀ σD Q ok q)) λu s' zz=>by
  obtain⟨v,H',I',r,d,σD',pr,ok',rp,qd⟩:=zz;exact⟨v,H',d,σD',I',r,pr,ok',rp,qd⟩⟩
variable {as bs:List Stmt}{ua ub:DTS}{ga gb:GTS}
end
section
variable {K:PySem.W.Frag}{H₀ H:Hp}{σD:DSt}{σ:St}
end
abbrev zv7:=List W->O->O->List W->(D->O->O->Prop)->Prop
structure DPH(X:Cx)(i j:Nat)(es:List Expr)(t:zcu):Prop where
 run:∀(pos:Pos) (pins:List (Addr×Obj)) (s:Shared) (σ:St) (H H₀:Hp) (σD:DSt) (Q:List W->List W->Prop),Inv X pins σ H s->DOk X.K H₀ H σD σ->t σD Q ->
  wpAny (model X.prog X.w) X.A (spliced (backTo pos (starEach es X.env))) (λus s'=>∃vp v w vq H' wp wq,Inv X pins σ H' s'/\Vals (vp++v::w::vq) us/\Same H H'/\σ[i]?=some (some v)/\σ[j]?=some (some w)/\RepWs X.K H' wp vp/\RepWs X.K H' wq vq/\Q wp wq) X.xe s
section
variable {X:Cx}{e:Expr}{es:List Expr}{k k' i j:Nat}{x:Str}{ps:List Str}{sp:zv7}{t:zcu}{p pos:Pos}
end
section
variable {P:Program}{w:World}{K:PySem.W.Frag}{mg:Str->Option Value}{base:Heap}
end
section
variable {K:PySem.W.Frag}{H₀ H:Hp}{σD:DSt}{σ:St}
theorem InsA.keep{H':Hp}{c:Str}{fs:List (Str×D)}{p:Addr×Addr}(pr:Pers H H')(k1:∀u,H p.1=some u->H' p.1=some u)(k2:∀u,H p.2=some u->H' p.2=some u):InsA K H c fs p->InsA K H' c fs p:=by
 rintro ⟨C,fv,n,e1,e2,e3,r⟩;exact⟨C,fv,n,k1 _ e1,k2 _ e2,e3,r.mono pr⟩
theorem InsR.at{c:Str}:∀{fss:List (List (Str×D))}{ps:List (Addr×Addr)}{k:Nat}{fs:List (Str×D)},InsR K H c fss ps->fss[k]?=some fs ->
  ∃l p r,ps=l++p::r/\l.length=k/\InsA K H c fs p/\∀H' fs' p',Pers H H'->(∀x∈fpI l++fpI r,∀u,H x=some u->H' x=some u)->InsA K H' c fs' p'->InsR K H' c (fss.set k fs') (l++p'::r)
 |[],_,_,_,_,e=>by simp at e
 |_::_,[],_,_,h,_=>h.elim
 |fs::fss,p::ps,0,_,h,e=>by
  simp at e;subst e;exact⟨[],p,ps,rfl,rfl,h.1,λH' fs' p' pr k i=>⟨i,h.2.keep pr λa ha u hu=>k a (by simpa[fpI]using ha) u hu⟩⟩
 |fs::fss,p::ps,k+1,g,h,e=>by
  obtain⟨l,q,r,rfl,hl,i,put⟩:=InsR.at h.2 (show fss[k]?=some g by simpa using e);refine⟨p::l,q,r,rfl,by simp[hl],i,λH' fs' p' pr kk i'=>⟨h.1.keep pr (λu hu=>kk p.1 (by simp[fpI]) u hu) (λu hu=>kk p.2 (by simp[fpI]) u hu),put H' fs' p' pr (λx hx u hu=>kk x ?_ u hu) i'⟩⟩;rcases List.mem_append.mp hx with z|z
  ·exact List.mem_append_left _ (List.mem_cons_of_mem _ (List.mem_cons_of_mem _ z))
  ·exact List.mem_append_right _ z
theorem InsR.len{c:Str}:∀{fss:List (List (Str×D))}{ps:List (Addr×Addr)},InsR K H c fss ps->ps.length=fss.length
 |[],[],_=>rfl
 |[],_::_,h=>h.elim
 |_::_,[],h=>h.elim
 |_::_,_::_,h=>by rw[List.length_cons,List.length_cons,h.2.len]
theorem InsA.of{c:Str}{fs:List (Str×D)}{b:Addr}{f:List Addr}(h:RepO K H (.ins c fs) (.ref b) f):∃dx,f = [b,dx]/\InsA K H c fs (b,dx):=by
 obtain⟨b',dx,C,fv,e,rfl,n,e1,e2,e3,r⟩:=h
 cases e;exact⟨dx,rfl,C,fv,n,e1,e2,e3,r⟩
end
section
variable {X:Cx}{e ie:Expr}{es:List Expr}{te ti:DTE}{t:DTP}{pos:Pos}{c f m x:Str}{C g:Addr}{i j k k':Nat}{ps fs:List Str}{sp:zct}
structure DNG(X:Cx)(e:Expr)(t:zqb):Prop where
 run:∀(pins:List (Addr×Obj)) (s:Shared) (σ:St) (H H₀:Hp) (σD:DSt) (Q:D->DSt->Prop),Inv X pins σ H s->DOk X.K H₀ H σD σ->t σD Q ->
  wpAny (model X.prog X.w) X.A (eval e X.env) (λu s'=>∃v H' d σD',Inv X pins σ H' s'/\RelV v u/\Pers H H'/\DOk X.K H₀ H' σD' σ/\RepN X.K H' d v/\Q d σD') X.xe s
theorem zoa{α:Type}{l:List α}{n:Nat}{a:α}(h:l[n]?=some a):l.set n a=l:=by
 refine List.ext_getElem? λm=>?_
 by_cases z:n=m
 ·subst z;rw[List.getElem?_set_self (List.getElem?_eq_some_iff.mp h).1,h]
 ·rw[List.getElem?_set_ne z]
theorem DOk.clr{K:PySem.W.Frag}{H₀ H:Hp}{σD:DSt}{σ:St}{o:O}(h:DOk K H₀ H σD σ)(eo:σD[i]?=some (some (.own o))):DOk K H₀ H (clr σD) σ:=by
 obtain⟨v,f,ev,rO,nf,fr,put⟩:=h.focus eo;have z:=(put H o f (λ_ _ _ hu=>hu) nf (λ_ ha=>.inl ha) rO).1;rw[zoa eo]at z;exact z
end
section
variable {X:Cx}{e ie:Expr}{te ti:DTE}{pos:Pos}
end
abbrev EXG:=Str×List (Str×Int)->O->Prop
section
variable {K:PySem.W.Frag}{H₀ H H1:Hp}{σD:DSt}{σ:St}
end
structure DGX(X:Cx)(H₀:Hp)(st:Stmt)(t:GTS):Prop where
 run:∀(pins:List (Addr×Obj)) (s:Shared) (σ:St) (H:Hp) (σD:DSt) (Gn:zef),Inv X pins σ H s->DOk X.K H₀ H σD σ->t Gn σD->wpAny (model X.prog X.w) X.A (exec st X.env) (SP X pins (zeg X.K H₀ H Gn)) X.xe s
structure zyg(X:Cx)(H₀:Hp)(st:List Stmt)(t:GTS):Prop where
 run:∀(pins:List (Addr×Obj)) (s:Shared) (σ:St) (H:Hp) (σD:DSt) (Gn:zef),Inv X pins σ H s->DOk X.K H₀ H σD σ->t Gn σD->wpAny (model X.prog X.w) X.A (execs st X.env) (SP X pins (zeg X.K H₀ H Gn)) X.xe s
section
variable {X:Cx}{H₀:Hp}{st:Stmt}{sts rest:List Stmt}{t u:GTS}{pos:Pos}
theorem DGX.of{t':TS}(h:PS X st t')(k:∀σ H σD Gn,DOk X.K H₀ H σD σ->t Gn σD->t' (zeg X.K H₀ H Gn) σ H):DGX X H₀ st t :=
 ⟨λpins s σ H σD Gn I ok q=>h pins s σ H _ I (k σ H σD Gn ok q)⟩
end
section
variable {P:Program}{w:World}{K:PySem.W.Frag}{mg:Str->Option Value}{base:Heap}{N:List Str}{qual:Str}{scope:Scope}{f0:Addr}{cd:Value}{A:Around}{outer:List Env}{s:Shared}{H H₀:Hp}{E:XK}{a:Addr}{ex:EXG}
end
section
variable {P:Program}{w:World}{K:PySem.W.Frag}{mg:Str->Option Value}{base:Heap}
end
section
variable {X:Cx}{e a b:Expr}{es rest:List Expr}{tc:DTT}{ta tb:zqb}{pos p:Pos}{i j:Nat}
end
section
variable {K:PySem.W.Frag}{H₀ H:Hp}{σD:DSt}{σ:St}
end
section
variable {X:Cx}{k k' i j pn:Nat}{f:Str}{ps:List Str}{sp:zv7}{ti tj:DTE}{p pos:Pos}
end
section
variable {X:Cx}{e e2:Expr}{es es2:List Expr}{t1 t2:DTP}{pos:Pos}{c:Str}{C:Addr}{j k k':Nat}{ps fs:List Str}{sp:zct}
end
section
variable {X:Cx}
end
def zv8(K:PySem.W.Frag)(H H':Hp)(d:D)(xs:List D)(v:V):Prop:=∃p a u vs,v=.ref p/\SqT K H' p [u,.ref a]/\Rep K H' d u/\H a=none/\H' a=some (.lst vs)/\Reps K H' xs vs
abbrev zqc:=(D->List D->Prop)->DSt->Prop
def zv9(X:Cx)(pins:List (Addr×Obj))(H₀:Hp)(Q:D->List D->Prop)(f:Flow)(s':Shared):Prop:=∃u v σ' H' d xs,f=.ret u/\Inv X pins σ' H' s'/\RelV v u/\Same H₀ H'/\zv8 X.K H₀ H' d xs v/\Q d xs
structure DPSs(X:Cx)(sts:List Stmt)(t:zqc):Prop where
 run:∀(pins:List (Addr×Obj)) (s:Shared) (σ:St) (H H₀:Hp) (σD:DSt) (Q:D->List D->Prop),Inv X pins σ H s->DOk X.K H₀ H σD σ->t Q σD->wpAny (model X.prog X.w) X.A (execs sts X.env) (zv9 X pins H₀ Q) X.xe s
structure zyh(X:Cx)(sts:List Stmt)(t:zqc):Prop where
 run:∀(pins:List (Addr×Obj)) (s:Shared) (σ:St) (H:Hp) (σD:DSt) (Q:D->List D->Prop),Inv X pins σ H s->DOk X.K X.H₀ H σD σ->t Q σD->wpAny (model X.prog X.w) X.A (execs sts X.env) (zv9 X pins X.H₀ Q) X.xe s
section
variable {X:Cx}{st:Stmt}{rest:List Stmt}{t:DTS}{u:zqc}{e:Expr}{pos:Pos}{i j:Nat}{sp:zct}{tg:zcu}
def zxw(K:PySem.W.Frag)(t:zqc):TS:=λE σ H=>∃H₀ σD QD,DOk K H₀ H σD σ/\t QD σD/\∀v H' d xs,Same H₀ H'->zv8 K H₀ H' d xs v->QD d xs->E.rt v H'
theorem DPSs.ps{sts:List Stmt}(h:DPSs X sts u):PSs X sts (zxw X.K u):=by
 intro pins s σ H E I zz;obtain⟨H₀,σD,QD,ok,q,k⟩:=zz;refine thn (h.run pins s σ H H₀ σD QD I ok q) λf s' z=>?_;obtain⟨u,v,σ',H',d,xs,rfl,J,rv,sm,rp,qd⟩:=z;exact⟨v,σ',H',J,rv,k v H' d xs sm rp qd⟩
end
section
variable {P:Program}{w:World}{K:PySem.W.Frag}{mg:Str->Option Value}{base:Heap}
end
section
variable {P:Program}{w:World}{K:PySem.W.Frag}{mg:Str->Option Value}{base:Heap}{N:List Str}{qual:Str}{scope:Scope}{f:Addr}{cd:Value}{A:Around}{outer:List Env}{s:Shared}{H:Hp}{E:XK}
end
section
variable {X:Cx}{e:Expr}{es:List Expr}{t:DTP}{pos:Pos}{c:Str}{j k:Nat}{ps:List Str}{sp:DSp}
end
end L2
namespace STB
open PySem SV
def OkM(m:Nat):Prop:=m=7\/m=31\/m=127\/m=511
def gI(m i:Nat):Nat:=(i * 5+1) % (m+1)
def gK(m:Nat):Nat->Nat->Nat
 |0,i=>i
 |k+1,i=>gK m k (gI m i)
theorem zfg(m:Nat):∀(a b i:Nat),gK m (a+b) i=gK m b (gK m a i)
 |0,b,i=>by rw[Nat.zero_add];rfl
 |a+1,b,i=>by rw[show a+1+b=a+b+1 by omega];exact zfg m a b (gI m i)
def ztz(m:Nat):Nat->Nat->List Nat
 |0,_=>[]
 |k+1,i=>i::ztz m k (gI m i)
theorem zkb(m:Nat):∀(k i j:Nat),j∈ztz m k i->∃a,a<k/\gK m a i=j
 |0,_,_,h=>nomatch h
 |k+1,i,j,h=>by
  rcases List.mem_cons.mp h with rfl|h
  ·exact⟨0,by omega,rfl⟩
  ·obtain⟨a,h1,h2⟩:=zkb m k _ _ h;exact⟨a+1,by omega,h2⟩
def zwa(m:Nat):Bool:=((List.range (m+1)).all λj=>(ztz m (m+1) 0).any (Nat.beq j)) && Nat.beq (gK m (m+1) 0) 0
theorem zqd{m:Nat}(h:OkM m):zwa m=true:=by
 rcases h with rfl|rfl|rfl|rfl
 ·decide +kernel
 ·decide +kernel
 ·decide +kernel
 ·decide +kernel
theorem zwb{m:Nat}(h:OkM m){i j:Nat}(hi:i<=m)(hj:j<=m):∃k,k<=m/\gK m k i=j:=by
 have f:=zqd h;unfold zwa at f;rw[Bool.and_eq_true,List.all_eq_true]at f;obtain⟨f1,f2⟩:=f;have f2:=Nat.eq_of_beq_eq_true f2;have at0:∀j,j<=m->∃a,a<=m/\gK m a 0=j:=λj hj=>by
  have:=f1 j (List.mem_range.mpr (by omega));rw[List.any_eq_true]at this;obtain⟨x,hx,e⟩:=this;obtain⟨a,h1,h2⟩:=zkb m _ _ _ hx;exact⟨a,by omega,h2.trans (Nat.eq_of_beq_eq_true e).symm⟩
 obtain⟨a,ha,ea⟩:=at0 i hi;obtain⟨b,hb,eb⟩:=at0 j hj
 by_cases c:a<=b
 ·refine⟨b-a,by omega,?_⟩;rw[<-ea,<-zfg,show a+(b-a)=b by omega,eb]
 ·refine⟨m+1+b-a,by omega,?_⟩;rw[<-ea,<-zfg,show a+(m+1+b-a)=m+1+b by omega,zfg,f2,eb]
def lpK(m:Nat):Nat->Nat×Nat->Nat×Nat
 |0,x=>x
 |k+1,x=>lpK m k (SetTable.leap m x.1 x.2)
theorem zkc(m:Nat):∀(a b:Nat) (x:Nat×Nat),lpK m (a+b) x=lpK m b (lpK m a x)
 |0,b,x=>by rw[Nat.zero_add];rfl
 |a+1,b,x=>by rw[show a+1+b=a+b+1 by omega];exact zkc m a b _
theorem zob{m:Nat}:∀(k:Nat) {x:Nat×Nat},x.1<=m->(lpK m k x).1<=m
 |0,_,h=>h
 |k+1,x,_=>zob k (Nat.le_of_lt_succ (Nat.mod_lt _ (Nat.succ_pos m)))
theorem zkd{m:Nat}:∀(k:Nat) (x:Nat×Nat),(lpK m k x).2=x.2 / 32 ^ k
 |0,x=>by simp[lpK]
 |k+1,x=>by
  show(lpK m k (SetTable.leap m x.1 x.2)).2=_;rw[zkd k];show x.2 / 32 / 32 ^ k=_;rw[Nat.div_div_eq_div_mul,Nat.pow_succ,Nat.mul_comm 32]
theorem zgu{m:Nat}:∀(k i:Nat),lpK m k (i,0)=(gK m k i,0)
 |0,_=>rfl
 |k+1,i=>by
  show lpK m k (SetTable.leap m i 0)=_;rw[show SetTable.leap m i 0=(gI m i,0) by unfold SetTable.leap gI;simp];exact zgu k _
theorem zrj{m:Nat}(h:OkM m){i p j:Nat}(hi:i<=m)(hp:p<2 ^ 64)(hj:j<=m):∃k,k<=13+m/\(lpK m k (i,p)).1=j:=by
 have e:(lpK m 13 (i,p)).2=0:=by
  rw[zkd];exact Nat.div_eq_of_lt (Nat.lt_of_lt_of_le hp (by decide))
 have le:=zob (m:=m) 13 (x:=(i,p)) hi;obtain⟨k,hk,ek⟩:=zwb h le hj;refine⟨13+k,by omega,?_⟩;rw[zkc,show lpK m 13 (i,p)=((lpK m 13 (i,p)).1,0) from Prod.ext rfl e,zgu];exact ek
def adv(t:SetTable):Nat->SetTable.Probe->SetTable.Probe
 |0,p=>p
 |n+1,p=>adv t n (t.advance p)
theorem zb7(t:SetTable):∀(a b:Nat) (p:SetTable.Probe),adv t (a+b) p=adv t b (adv t a p)
 |0,b,p=>by rw[Nat.zero_add];rfl
 |a+1,b,p=>by rw[show a+1+b=a+b+1 by omega];exact zb7 t a b _
theorem zeh(t:SetTable)(p:SetTable.Probe):(t.advance p).dummy=p.dummy:=by
 unfold SetTable.advance
 split <;> rfl
def lst(t:SetTable)(x:Nat×Nat):SetTable.Probe:={ j:=x.1,more:=SetTable.runEnd t.mask x.1-x.1,i:=x.1,perturb:=x.2,dummy:=none }
theorem zoc{m i:Nat}:SetTable.runEnd m i-i<=9:=by
 unfold SetTable.runEnd
 split <;> omega
theorem zfh{t:SetTable}:∀(n:Nat) (p:SetTable.Probe),p.more=n->p.dummy=none->adv t (n+1) p=lst t (SetTable.leap t.mask p.i p.perturb)
 |0,p,h,d=>by
  show t.advance p=_;unfold SetTable.advance;rw[if_neg (by omega)];obtain⟨j,more,i,pt,dm⟩:=p
  cases d;rfl
 |n+1,p,h,d=>by
  show adv t (n+1) (t.advance p)=_;have e:t.advance p = { p with j:=p.j+1,more:=p.more-1 }:=by
   unfold SetTable.advance;rw[if_pos (by omega)]
  rw[e];exact zfh n _ (by show p.more-1=n;omega) d
theorem zei{t:SetTable}:∀(k:Nat) (x:Nat×Nat),∃n,n<=10 * k/\adv t n (lst t x)=lst t (lpK t.mask k x)
 |0,x=>⟨0,by omega,rfl⟩
 |k+1,x=>by
  obtain⟨n,hn,e⟩:=zei k (SetTable.leap t.mask x.1 x.2);refine⟨(lst t x).more+1+n,?_,?_⟩
  ·have:(lst t x).more<=9:=zoc;omega
  ·rw[zb7,zfh _ _ rfl rfl];exact e
theorem way{t:SetTable}(h:OkM t.mask){p:SetTable.Probe}(hd:p.dummy=none)(hm:p.more<=9)(hi:p.i<=t.mask)(hp:p.perturb<2 ^ 64){j:Nat}(hj:j<=t.mask):∃n,n<10 * SetTable.turns t.mask/\(adv t n p).j=j:=by
 have h1:(SetTable.leap t.mask p.i p.perturb).1<=t.mask:=Nat.le_of_lt_succ (Nat.mod_lt _ (Nat.succ_pos _));have h2:(SetTable.leap t.mask p.i p.perturb).2<2 ^ 64:=Nat.lt_of_le_of_lt (Nat.div_le_self _ _) hp;obtain⟨k,hk,ek⟩:=zrj h h1 h2 hj;obtain⟨n,hn,e⟩:=zei (t:=t) k (SetTable.leap t.mask p.i p.perturb);refine⟨p.more+1+n,?_,?_⟩
 ·unfold SetTable.turns;omega
 ·rw[zb7,zfh _ _ rfl hd,e];exact ek
theorem zqe{t:SetTable}(hd:t.dummies = #[])(j:Nat):t.slot j ≠ .dummy:=by
 unfold SetTable.slot;dsimp only;rw[hd,show SetTable.has #[] j=false by unfold SetTable.has;simp]
 split <;> simp
theorem zfi{t:SetTable}(hd:t.dummies = #[])(f:Nat->Int)(h:Int):∀(n:Nat) (p:SetTable.Probe) (fuel:Nat),p.dummy=none->t.slot (adv t n p).j=.empty->n<fuel ->
  (∃j,SetTable.probe.go t f h fuel p=some (.empty j none)/\t.slot j=.empty)\/∃j i m,m<n/\SetTable.probe.go t f h fuel p=some (.candidate j i (adv t (m+1) p))/\t.slot j=.live i/\f i=h:=by
 intro n
 induction n with
 |zero=>
  intro p fuel dn he hf;obtain⟨g,rfl⟩:∃g,fuel=g+1:=⟨fuel-1,by omega⟩
  left;refine⟨p.j,?_,he⟩;unfold SetTable.probe.go;rw[show t.slot p.j=.empty from he];dsimp only;rw[dn]
 |succ n ih=>
  intro p fuel dn he hf;obtain⟨g,rfl⟩:∃g,fuel=g+1:=⟨fuel-1,by omega⟩
  unfold SetTable.probe.go
  cases e:t.slot p.j with
  |empty=>
   left;refine⟨p.j,?_,e⟩;dsimp only;rw[dn]
  |dummy=>exact absurd e (zqe hd _)
  |live i=>
   dsimp only
   by_cases c:(f i == h)=true
   ·rw[if_pos c];exact .inr ⟨p.j,i,0,by omega,rfl,e,eq_of_beq c⟩
   ·rw[if_neg c];rcases ih (t.advance p) g ((zeh t p).trans dn) he (by omega) with h1 |⟨j,i',m,h1,h2,h3,h4⟩
    ·exact .inl h1
    ·exact .inr ⟨j,i',m+1,by omega,h2,h3,h4⟩
theorem zke:∀(l l':List Nat),l.Nodup->(∀a∈l,a∈l')->l.length<=l'.length
 |[],_,_,_=>Nat.zero_le _
 |a::l,l',nd,h=>by
  have ha:=h a List.mem_cons_self;obtain⟨na,nl⟩:=List.nodup_cons.mp nd;have:=zke l (l'.erase a) nl λb hb=>(List.mem_erase_of_ne (by rintro rfl;exact na hb)).mpr (h b (List.mem_cons_of_mem _ hb));rw[List.length_erase_of_mem ha]at this;have:0<l'.length:=List.length_pos_of_mem ha;rw[List.length_cons];omega
theorem zt0{t:SetTable}(hd:t.dummies = #[])(hs:t.place.size<=t.mask):∃j,j<=t.mask/\t.slot j=.empty:=by
 have ex:∃j,j<=t.mask/\j∉t.place.toList:=by
  refine Classical.byContradiction λn=>?_;have all:∀j∈List.range (t.mask+1),j∈t.place.toList:=λj hj=>by
   have:=List.mem_range.mp hj;exact Classical.byContradiction λc=>n ⟨j,by omega,c⟩
  have:=zke _ _ List.nodup_range all;rw[List.length_range,Array.length_toList]at this;omega
 obtain⟨j,hj,hn⟩:=ex;refine⟨j,hj,?_⟩;unfold SetTable.slot;dsimp only;rw[if_neg,hd,show SetTable.has #[] j=false by unfold SetTable.has;simp]
 ·rfl
 ·intro c;have c:=eq_of_beq c;exact hn (Array.mem_toList_iff.mpr (Array.mem_of_getElem? c))
theorem zqf(m i p:Nat):(SetTable.leap m i p).1<=m:=Nat.le_of_lt_succ (Nat.mod_lt _ (Nat.succ_pos _))
theorem zej{m:Nat}{owner:Array (Option Nat)}(hs:owner.size=m+1):∀(k fuel i p:Nat),i<=m->owner.getD (lpK m k (i,p)).1 (some 0)=none->k<fuel->∃j,SetTable.layClean.free m owner fuel i p=some j/\j<=m/\owner.getD j (some 0)=none
 |k,0,_,_,_,_,h=>absurd h (Nat.not_lt_zero _)
 |k,fuel+1,i,p,hi,he,hk=>by
  unfold SetTable.layClean.free
  cases e:(List.range (SetTable.runEnd m i+1-i)).find? (λk=>(owner.getD (i+k) (some 0)).isNone) with
  |some d=>
   dsimp only;have h1:=List.find?_some e;have h2:owner.getD (i+d) (some 0)=none:=by simpa using h1
   refine⟨i+d,rfl,?_,h2⟩;refine Classical.byContradiction λc=>?_;rw[Array.getD,dif_neg (by omega)]at h2
   cases h2
  |none=>
   dsimp only
   cases k with
   |zero=>
    exfalso;have h1:=List.find?_eq_none.mp e 0 (List.mem_range.mpr (by
     have:i<=SetTable.runEnd m i:=by unfold SetTable.runEnd;split <;> omega
     omega))
    rw[Nat.add_zero,show owner.getD i (some 0)=none from he]at h1;exact h1 rfl
   |succ k=>
    exact zej hs k fuel _ _ (zqf m i p) he (by omega)
theorem fm_congr{α β:Type}{f g:α->Option β}:∀{l:List α},(∀x∈l,f x=g x)->l.filterMap f=l.filterMap g
 |[],_=>rfl
 |a::l,h=>by rw[List.filterMap_cons,List.filterMap_cons,h a List.mem_cons_self,fm_congr λx hx=>h x (List.mem_cons_of_mem _ hx)]
def occ(m:Nat)(owner:Array (Option Nat)):List Nat:=(List.range (m+1)).filterMap λj=>owner.getD j none
theorem zqg{m:Nat}{owner:Array (Option Nat)}(hs:owner.size=m+1){j k:Nat}(hj:j<=m)(hn:owner.getD j (some 0)=none):(occ m (owner.setIfInBounds j (some k))).Perm (k::occ m owner):=by
 have hjs:j<owner.size:=by omega
 have split:∀(a n:Nat),a<=n->(List.range n)=List.range a++(List.range (n-a)).map (a + ·):=λa n h=>by
  rw[<-List.range_add,show a+(n-a)=n by omega]
 have e1:List.range (m+1)=List.range j++j::(List.range (m-j)).map (j+1 + ·):=by
  rw[split (j+1) (m+1) (by omega),List.range_succ,List.append_assoc,show m+1-(j+1)=m-j by omega];rfl
 have ne:∀i,i≠j->(owner.setIfInBounds j (some k)).getD i none=owner.getD i none:=λi h=>by
  simp only[Array.getD_eq_getD_getElem?];rw[Array.getElem?_setIfInBounds_ne (Ne.symm h)]
 have at1:(owner.setIfInBounds j (some k)).getD j none=some k:=by
  simp only[Array.getD_eq_getD_getElem?];rw[Array.getElem?_setIfInBounds_self_of_lt hjs];rfl
 have at0:owner.getD j none=none:=by
  simp only[Array.getD_eq_getD_getElem?]at hn ⊢
  cases e:owner[j]? with
  |none=>rfl
  |some x=>rw[e]at hn;exact hn
 unfold occ;rw[e1,List.filterMap_append,List.filterMap_append,List.filterMap_cons,List.filterMap_cons,at1,at0];have c1:(List.range j).filterMap (λi=>(owner.setIfInBounds j (some k)).getD i none)=(List.range j).filterMap λi=>owner.getD i none:=fm_congr λi hi=>ne i (by have:=List.mem_range.mp hi;omega);have c2:((List.range (m-j)).map (j+1 + ·)).filterMap (λi=>(owner.setIfInBounds j (some k)).getD i none)=((List.range (m-j)).map (j+1 + ·)).filterMap λi=>owner.getD i none:=fm_congr λi hi=>ne i (by obtain⟨x,_,rfl⟩:=List.mem_map.mp hi;omega);rw[c1,c2];exact List.perm_middle
theorem zod{m:Nat}{owner:Array (Option Nat)}(hs:owner.size=m+1)(h:(occ m owner).length<=m):∃j,j<=m/\owner.getD j (some 0)=none:=by
 refine Classical.byContradiction λn=>?_;have all:∀j∈List.range (m+1),(owner.getD j none).isSome=true:=λj hj=>by
  have hj:=List.mem_range.mp hj
  cases e:owner.getD j none with
  |some x=>rfl
  |none=>
   exfalso;refine n ⟨j,by omega,?_⟩;simp only[Array.getD_eq_getD_getElem?]at e ⊢;rw[Array.getElem?_eq_getElem (by omega)]at e ⊢;exact e
 have:(occ m owner).length=m+1:=by
  unfold occ;have:∀l:List Nat,(∀j∈l,(owner.getD j none).isSome=true)->(l.filterMap λj=>owner.getD j none).length=l.length:=λl=>by
   induction l with
   |nil=>intro _;rfl
   |cons a l ih=>
    intro h;obtain⟨x,hx⟩:=Option.isSome_iff_exists.mp (h a List.mem_cons_self);rw[List.filterMap_cons,hx,List.length_cons,List.length_cons,ih λj hj=>h j (List.mem_cons_of_mem _ hj)]
  rw[this _ all,List.length_range]
 omega
theorem zkf(h:Int):SetTable.bits h<2 ^ 64:=by
 unfold SetTable.bits;have h1:0<=h % (2 ^ 64:Int):=Int.emod_nonneg _ (by decide);have h2:h % (2 ^ 64:Int)<2 ^ 64:=Int.emod_lt_of_pos _ (by decide);omega
theorem zgv{m:Nat}(hm:OkM m):∀(hs:List Int) (owner:Array (Option Nat)) (k:Nat),owner.size=m+1->(occ m owner).Perm (List.range k)->k+hs.length<=m ->
  ∃o,List.foldl (λacc h=>(do
   let (owner,k) <-acc
   let j <-SetTable.layClean.free m owner (SetTable.turns m) (SetTable.bits h % (m+1)) (SetTable.bits h)
   pure (owner.setIfInBounds j (some k),k+1):Option (Array (Option Nat)×Nat))) (some (owner,k)) hs=some (o,k+hs.length)/\o.size=m+1/\(occ m o).Perm (List.range (k+hs.length))
 |[],owner,k,h1,h2,_=>⟨owner,rfl,h1,h2⟩
 |h::hs,owner,k,h1,h2,h3=>by
  rw[List.length_cons]at h3;obtain⟨j,hj,hn⟩:=zod h1 (by rw[h2.length_eq,List.length_range];omega);have hi:SetTable.bits h % (m+1)<=m:=Nat.le_of_lt_succ (Nat.mod_lt _ (Nat.succ_pos _));obtain⟨n,hn1,hn2⟩:=zrj hm hi (zkf h) hj;obtain⟨j',e1,e2,e3⟩:=zej h1 n (SetTable.turns m) _ (SetTable.bits h) hi (by rw[hn2];exact hn) (by unfold SetTable.turns;omega);rw[List.foldl_cons];dsimp only[Option.bind_eq_bind,Option.bind_some,bind];rw[e1];dsimp only[Option.bind_some,pure];have p:=zqg h1 e2 e3 (k:=k);have p2:(occ m (owner.setIfInBounds j' (some k))).Perm (List.range (k+1)):=by
   rw[List.range_succ];exact(p.trans (h2.cons k)).trans (List.perm_append_comm (l₁:=[k]))
  obtain⟨o,f1,f2,f3⟩:=zgv hm hs _ (k+1) (by rw[Array.size_setIfInBounds];exact h1) p2 (by omega);refine⟨o,?_,f2,?_⟩
  ·rw[List.length_cons,show k+(hs.length+1)=k+1+hs.length by omega];exact f1
  ·rw[List.length_cons,show k+(hs.length+1)=k+1+hs.length by omega];exact f3
theorem zqh{m f mv:Nat}{led pl:Bool}(hm:OkM m)(hs:Array Int)(hl:hs.size<=m):∃t order,SetTable.laid m f mv led pl hs=some (t,order)/\t.mask=m/\t.place.size=hs.size/\t.dummies = #[]/\t.led=led/\t.plain=pl/\order.toList.Perm (List.range hs.size):=by
 have h0:occ m (Array.replicate (m+1) none) = []:=by
  unfold occ;rw[List.filterMap_eq_nil_iff];intro j _;simp only[Array.getD_eq_getD_getElem?,Array.getElem?_replicate]
  split <;> rfl
 obtain⟨o,h1,h2,h3⟩:=zgv hm hs.toList (Array.replicate (m+1) none) 0 Array.size_replicate (by rw[h0];exact List.Perm.refl _) (by rw[Array.length_toList];omega);rw[Nat.zero_add,Array.length_toList]at h1 h3;have e1:SetTable.layClean m hs=some o:=by
  unfold SetTable.layClean;rw[<-Array.foldl_toList];rw[h1];rfl
 unfold SetTable.laid;rw[e1];refine⟨_,_,rfl,rfl,?_,rfl,rfl,rfl,?_⟩
 ·simp only[List.size_toArray,List.length_map]
  have:((List.range (m+1)).filterMap λj=>(o.getD j none).map (j,·)).length=(occ m o).length:=by
   unfold occ
   induction List.range (m+1) with
   |nil=>rfl
   |cons a l ih=>
    rw[List.filterMap_cons,List.filterMap_cons]
    cases o.getD a none with
    |none=>exact ih
    |some x=>simp only[Option.map_some,List.length_cons,ih]
  rw[this,h3.length_eq,List.length_range]
 ·have:((List.range (m+1)).filterMap λj=>(o.getD j none).map (j,·)).map (·.2)=occ m o:=by
   unfold occ;rw[List.map_filterMap];refine fm_congr λj _=>?_
   cases o.getD j none <;> rfl
  rw[this];exact h3
end STB
namespace PySem
open STB SV
structure zgw(prog:Program)(w:World)(K:Type)[DecidableEq K] extends HeapKind prog w K where
 pers:∀{h h':Heap}{k:K}{a:Addr},is h k a->(∀b o,h.get? b=some o->o.cls=.type "tuple" -> h'.get? b=some o)->is h' k a
 hv:∀{A:Around}{E:Value->Shared->Prop}{s:Shared}{k:K}{a:Addr}{Q:Bool->Shared->Prop},is s.heap k a->(∀b,Q b s)->wpAny (model prog w) A (hashByValue 8 (.ref a)) Q E s
 stm:∀{A:Around}{E:Value->Shared->Prop}{s:Shared}{k:K}{a:Addr}{Q:Bool->Shared->Prop},is s.heap k a->Q false s->wpAny (model prog w) A (ofAClassStatement 8 (.ref a)) Q E s
structure TabI(w:World)(t:SetTable)(n:Nat):Prop where
 m:OkM t.mask
 d:t.dummies = #[]
 p:t.place.size=n
 r:Ris t.place
 f:n * 5<t.mask * 3
 l:t.led = !w.params.followText "set-order"
theorem TabI.le{w:World}{t:SetTable}{n:Nat}(h:TabI w t n):n<=t.mask:=by have:=h.f;omega
theorem zkg{t:SetTable}{n:Nat}(hp:t.place.size=n)(hd:t.dummies = #[])(hn:n<=t.mask):t.fits n=true:=by
 unfold SetTable.fits SetTable.fill;rw[hd,hp];simp[hn]
theorem TabI.fits{w:World}{t:SetTable}{n:Nat}(h:TabI w t n):t.fits n=true:=zkg h.p h.d h.le
theorem TabI.way{w:World}{t:SetTable}{n:Nat}(h:TabI w t n){p:SetTable.Probe}(hd:p.dummy=none)(hm:p.more<=9)(hi:p.i<=t.mask)(hp:p.perturb<2 ^ 64):∃n,n<10 * SetTable.turns t.mask/\t.slot (adv t n p).j=.empty:=by
 obtain⟨j,hj,e⟩:=zt0 h.d (by rw[h.p];exact h.le);obtain⟨n,h1,h2⟩:=STB.way h.m hd hm hi hp hj;exact⟨n,h1,by rw[h2];exact e⟩
theorem ziw{t:SetTable}(hd:t.dummies = #[]){F:Nat->Int}{h:Int}{n:Nat}{p:SetTable.Probe}(dn:p.dummy=none)(he:t.slot (adv t n p).j=.empty)(hn:n<10 * SetTable.turns t.mask):t.probe F h p≠none:=λz=>by
 unfold SetTable.probe at z;rcases zfi hd F h n p _ dn he hn with⟨j,e,_⟩ |⟨j,i,m,_,e,_⟩ <;> rw[e]at z <;> cases z
theorem zgx{t:SetTable}(hd:t.dummies = #[]){F:Nat->Int}{h:Int}{n:Nat}{p:SetTable.Probe}(dn:p.dummy=none)(he:t.slot (adv t n p).j=.empty)(hn:n<10 * SetTable.turns t.mask){j:Nat}{dm:Option Nat}(z:t.probe F h p=some (.empty j dm)):dm=none/\t.slot j=.empty:=by
 unfold SetTable.probe at z;rcases zfi hd F h n p _ dn he hn with⟨j',e,e2⟩ |⟨j',i,m,_,e,_⟩ <;> rw[e]at z <;> cases z
 exact⟨rfl,e2⟩
theorem zix{t:SetTable}(hd:t.dummies = #[]){F:Nat->Int}{h:Int}{n:Nat}{p q:SetTable.Probe}(dn:p.dummy=none)(he:t.slot (adv t n p).j=.empty)(hn:n<10 * SetTable.turns t.mask){j i:Nat}(z:t.probe F h p=some (.candidate j i q)):t.slot j=.live i/\∃m,m<n/\q=adv t (m+1) p:=by
 unfold SetTable.probe at z;rcases zfi hd F h n p _ dn he hn with⟨j',e,e2⟩ |⟨j',i',m,hm,e,e2,_⟩ <;> rw[e]at z <;> cases z
 exact⟨e2,m,hm,rfl⟩
theorem zoe{t:SetTable}:∀(n:Nat) {p:SetTable.Probe},p.dummy=none->(adv t n p).dummy=none
 |0,_,h=>h
 |n+1,p,h=>zoe n ((zeh t p).trans h)
theorem zqi{t:SetTable}{j i:Nat}(h:t.slot j=.live i):t.place[i]?=some j:=by
 unfold SetTable.slot at h;dsimp only at h
 split at h
 ·next c=>cases h;exact eq_of_beq c
 ·split at h <;> cases h
section
variable {prog:Program}{w:World}{K:Type}[DecidableEq K](knd:zgw prog w K)
variable {A:Around}{E:Value->Shared->Prop}{s:Shared}
theorem zdl{k:K}{x:Addr}{Q:Bool->Shared->Prop}(hx:knd.is s.heap k x)(l:List Value)(hl:∀y∈l,∃k' b,y=.ref b/\knd.is s.heap k' b)(q:Q false s):
  wpAny (model prog w) A (searchCouldBeSeen (.ref x) l) Q E s:=by
 unfold searchCouldBeSeen;refine wpAny_bind ?_;refine wpAny_forIn_list _ (λrest r s'=>r.1=none/\s'=s/\∀y∈rest,∃k' b,y=.ref b/\knd.is s.heap k' b) _ ?_ ?_ _ _ ⟨rfl,rfl,hl⟩
 ·rintro y rest r s' ⟨hr,rfl,hall⟩;obtain⟨k',b,rfl,hb⟩:=hall y List.mem_cons_self;have rest':∀y∈rest,∃k' b,y=.ref b/\knd.is s'.heap k' b:=λz hz=>hall z (List.mem_cons_of_mem _ hz);dsimp only
  by_cases c:(x == b ||(carriedByValue (.ref x) && carriedByValue (.ref b)))=true
  ·rw[if_pos c];exact wpAny_pure ⟨rfl,rfl,rest'⟩
  ·rw[if_neg c];refine wpAny_bind (knd.quiet hx ?_);simp only[Bool.not_true,Bool.false_eq_true,if_false];refine wpAny_bind (knd.quiet hb ?_);simp only[Bool.not_true,Bool.false_eq_true,if_false];refine wpAny_bind (knd.stm hx ?_);simp only[Bool.false_eq_true,if_false];refine wpAny_bind (knd.stm hb ?_);simp only[Bool.false_eq_true,if_false];exact wpAny_pure ⟨rfl,rfl,rest'⟩
 ·rintro ⟨r1,r2⟩ s' ⟨hr,rfl,_⟩;simp only at hr;subst hr;exact wpAny_pure q
theorem zbc{a:Addr}{o:Obj}{es:Array (Int×Value)}{ep:Nat}{t:SetTable}{k:K}{x:Addr}{h:Int}{Q:SetFound->Shared->Prop}(hA:knd.room A)
  (ho:s.heap.get? a=some o) (hd:o.data=.set es ep t) (T:TabI w t es.size) (hx:knd.is s.heap k x) (hs:∀e∈es.toList,∃k' b,e.2=.ref b/\knd.is s.heap k' b/\k'≠k) (q:∀j,t.slot j=.empty->Q (.free j false) s) :
  ∀(n:Nat) (p:SetTable.Probe) (fuel:Nat) (st:Option SetTable.Probe),st.getD (t.probeStart h)=p->p.dummy=none->t.slot (adv t n p).j=.empty->n<10 * SetTable.turns t.mask->n<fuel->wpAny (model prog w) A (setSearchFrom a (.ref x) h true fuel st) Q E s:=by
 intro n
 induction n using Nat.strongRecOn with
 |_ n ih=>
 intro p fuel st hst dn he hn hf;obtain⟨g,rfl⟩:∃g,fuel=g+1:=⟨fuel-1,by omega⟩
 have gw:t.gaveWay=false:=by
  unfold SetTable.gaveWay;rcases T.m with e|e|e|e <;> rw[e] <;> rfl
 unfold setSearchFrom;refine wpAny_bind (wpAny_setState_of ho hd T.fits ?_);dsimp only;rw[gw,hst];simp only[Bool.false_eq_true,if_false]
 split
 ·next met hmet=>
  cases met with
  |empty j dm=>
   obtain⟨rfl,e2⟩:=zgx T.d dn he hn hmet;exact wpAny_pure (q j e2)
  |candidate j i next=>
   obtain⟨hl,m,hm,rfl⟩:=zix T.d dn he hn hmet;have hpl:=zqi hl;have hi:i<es.size:=by rw[<-T.p];exact(Array.getElem?_eq_some_iff.mp hpl).1
   have hei:es[i]?=some es[i]:=by simp[hi]
   obtain⟨k',b,eb,hb,hne⟩:=hs es[i] (Array.getElem_mem_toList hi);have tail:wpAny (model prog w) A (do
     let some (_,y):=es[i]?|unsupported "internal:set-entry"
     let equal <-holding [y] (eqBool y (.ref x))
     let (es',_,t') <-setState a
     if true && equal then return .there none
     let some same:=t'.sameMemory t.moves t.mask|unsupported "set.changed-during-lookup:is-the-new-block-at-the-old-address"
     let still <-match (if same then t'.slot j else .empty) with
      |.live i'=>match es'[i']? with
       |some (_,y')=>do pure (if <-isSame y' y then some i' else none)
       |none=>pure none
      |_=>pure none
     match still with
     |none=>rule "set.search.anew";setSearchFrom a (.ref x) h true g none
     |some i'=>if equal then return .there (some i') else setSearchFrom a (.ref x) h true g (some (adv t (m+1) p))) Q E s:=by
    rw[hei];dsimp only;rw[eb];refine wpAny_bind (wpAny_holding (knd.eqBool hA hb hx ?_));rw[decide_eq_false hne];refine wpAny_bind (wpAny_setState_of ho hd T.fits ?_);simp only[Bool.and_false,Bool.false_eq_true,if_false];rw[show t.sameMemory t.moves t.mask=some true by unfold SetTable.sameMemory;simp];dsimp only;rw[if_pos rfl,hl];dsimp only;rw[hei];dsimp only;rw[eb];refine wpAny_bind (wpAny_isSame_ref_self ?_);rw[if_pos rfl];refine wpAny_bind (wpAny_pure ?_);dsimp only;refine ih (n-(m+1)) (by omega) _ g _ rfl (zoe _ dn) ?_ (by omega) (by omega);show t.slot (adv t (n-(m+1)) (adv t (m+1) p)).j=.empty;rw[<-zb7,show m+1+(n-(m+1))=n by omega];exact he
   dsimp only
   by_cases c:(!t.led)=true
   ·rw[if_pos c];refine wpAny_bind (zdl knd hx _ (λy hy=>?_) ?_)
    ·obtain⟨e,he',rfl⟩:=List.mem_map.mp hy;have hm':e∈es.toList:=Array.mem_toList_iff.mpr (Array.mem_filter.mp (Array.mem_toList_iff.mp he')).1;obtain⟨k2,b2,h1,h2,_⟩:=hs e hm';exact⟨k2,b2,h1,h2⟩
    ·simp only[Bool.false_eq_true,if_false];exact tail
   ·rw[if_neg c];exact tail
 ·next hnone=>exact absurd (Option.eq_none_iff_forall_ne_some.mpr hnone) (ziw T.d dn he hn)
def Heap.SetH(h:Heap)(a:Addr)(bs:List (K×Addr)):Prop :=
 ∃o es ep t,h.get? a=some o/\o.ExactSet/\o.data=.set es ep t/\es.toList.Perm (bs.map λp=>(knd.hash p.1,Value.ref p.2))/\(∀p∈bs,knd.is h p.1 p.2)/\TabI w t es.size
theorem SetH.size{bs:List (K×Addr)}{es:Array (Int×Value)}(hp:es.toList.Perm (bs.map λp=>(knd.hash p.1,Value.ref p.2))):es.size=bs.length:=by
 rw[<-Array.length_toList,hp.length_eq,List.length_map]
def zrk(es:Array (Int×Value))(laid:Option (SetTable×Array Nat)):Sem (Array (Int×Value)×SetTable):=do
 let some (t,order):=laid|unsupported "internal:set-table-without-room"
 let es':=order.filterMap (es[·]?)
 if es'.size != es.size then unsupported "internal:set-table-lost-an-element"
 pure (es',t)
theorem zt1(l:List (Int×Value)):(List.range l.length).filterMap (l[·]?)=l:=by
 induction l with
 |nil=>rfl
 |cons a l ih=>
  rw[List.length_cons,List.range_succ_eq_map,List.filterMap_cons];simp only[List.getElem?_cons_zero,List.filterMap_map];congr 1
theorem ziy{es:Array (Int×Value)}{order:Array Nat}(h:order.toList.Perm (List.range es.size)):(order.filterMap (es[·]?)).toList.Perm es.toList:=by
 have e:(order.filterMap (es[·]?)).toList=order.toList.filterMap (es.toList[·]?):=by
  rw[Array.toList_filterMap];simp only[Array.getElem?_toList]
 rw[e];refine(h.filterMap _).trans ?_;rw[<-Array.length_toList,zt1]
theorem zgy{a:Addr}{o:Obj}{es:Array (Int×Value)}{ep:Nat}{t:SetTable}{m:Nat}{wanted:Nat}{Q:Unit->Shared->Prop}(ho:s.heap.get? a=some o)(hd:o.data=.set es ep t)(hf:t.fits es.size=true)
  (hm:OkM m) (hw:SetTable.sizeAbove wanted=m+1) (hn:es.size * 5<m * 3) (hl:t.led = !w.params.followText "set-order") (hz:es.size<scanBound)
  (q:∀es' t',es'.toList.Perm es.toList->TabI w t' es'.size->Q () { s with heap:=s.heap.update a (Obj.putSet es' t') }) :
  wpAny (model prog w) A (setRelay a wanted) Q E s:=by
 unfold setRelay;refine wpAny_bind (wpAny_setState_of ho hd hf ?_);dsimp only;rw[if_neg (by rw[hw];rcases hm with rfl|rfl|rfl|rfl <;> simp[sizeLine])];obtain⟨t',order,e1,e2,e3,e4,e5,e6,e7⟩:=zqh (f:=t.finger) (mv:=t.movedTo (SetTable.sizeAbove wanted-1)) (led:=t.led) (pl:=t.plain) hm (es.map (·.1)) (by rw[Array.size_map];omega);have e0:t.relaid (es.map (·.1)) wanted=some (t',order):=by
  unfold SetTable.relaid;rw[hw,Nat.add_sub_cancel]at *;exact e1
 rw[Array.size_map]at e3 e7;have hp:=ziy e7;have hsz:(order.filterMap (es[·]?)).size=es.size:=by rw[<-Array.length_toList,hp.length_eq,Array.length_toList]
 change wpAny _ _ (zrk es (t.relaid (es.map (·.1)) wanted) >>= _) _ _ _
 rw[e0];unfold zrk;dsimp only;rw[hsz];simp only[bne_self_eq_false,Bool.false_eq_true,if_false];refine wpAny_bind (wpAny_pure ?_);have T:TabI w t' (order.filterMap (es[·]?)).size:=⟨by rw[e2];exact hm,e4,by rw[e3,hsz],(zgr e1).1,by rw[hsz,e2];exact hn,by rw[e5];exact hl⟩
 exact wpAny_storeSet_of ho hd (q _ _ hp T) (by rw[hsz];exact fits_of_scanBound hz)
theorem zbd{a x:Addr}{bs:List (K×Addr)}{k:K}{Q:Bool->Shared->Prop}(hA:knd.room A)(hS:Heap.SetH knd s.heap a bs)(hx:knd.is s.heap k x)(hk:∀p∈bs,p.1≠k)(hl:bs.length<300)
  (q:∀h' tk,s.toks<=tk->Heap.SameBut a s.heap h'->Heap.SetH knd h' a (bs ++ [(k,x)])->Q true { s with heap:=h',toks:=tk }):wpAny (model prog w) A (setAdd a (.ref x)) Q E s:=by
 obtain⟨o,es,ep,t,ho,hex,hd,hp,hb,T⟩:=hS;have hsz:=SetH.size knd hp;unfold setAdd;refine wpAny_holding (wpAny_bind (knd.pyHash hA hx ?_));unfold setAddHashed setAddHashedIn;refine wpAny_holding (wpAny_bind (wpAny_setState_of (s:={ s with toks:=s.toks+knd.draws k }) ho hd T.fits ?_));dsimp only;rw[show byScan (.ref x) es=false from rfl];simp only[Bool.false_eq_true,if_false];have sets:∀(b o':_),s.heap.get? b=some o'->o'.cls=.type "tuple" -> b≠a:=λb o' h1 h2 z=>by
  rw[z,ho]at h1
  cases h1;rw[hex.1]at h2;injection h2 with h2
  exact absurd h2 (by decide)
 have hs:∀e∈es.toList,∃k' b,e.2=.ref b/\knd.is s.heap k' b/\k'≠k:=λe he=>by
  obtain⟨p,hp',rfl⟩:=List.mem_map.mp (hp.mem_iff.mp he);exact⟨p.1,p.2,rfl,hb p hp',hk p hp'⟩
 have h0:(t.probeStart (knd.hash k)).i<=t.mask:=Nat.le_of_lt_succ (Nat.mod_lt _ (Nat.succ_pos _));obtain⟨n,hn1,hn2⟩:=T.way (p:=t.probeStart (knd.hash k)) rfl zoc h0 (zkf _);have hn3:n<100000:=by
  have hm:=T.m;unfold SetTable.turns at hn1;rcases hm with e|e|e|e <;> rw[e]at hn1 <;> omega
 unfold setSearch;refine wpAny_bind (zbc knd (s:={ s with toks:=s.toks+knd.draws k }) hA ho hd T hx hs (λj hj=>?_) n _ 100000 none rfl rfl hn2 hn1 hn3);dsimp only;refine wpAny_bind (wpAny_setState_of (s:={ s with toks:=s.toks+knd.draws k }) ho hd T.fits ?_);dsimp only
 -- the table with one more
 have hnl:Not t.place j:=zcv λi z=>by rw[hj]at z;cases z
 have bel:=jh T.r j;have hple:SetTable.below t.place j<=t.place.size:=bel.le;have hput:(t.put j).1 = { t with place:=SetTable.insertAt t.place (SetTable.below t.place j) j }:=by
  unfold SetTable.put;dsimp only;rw[T.d,show SetTable.has #[] j=false by unfold SetTable.has;simp];rfl
 have hput2:(t.put j).2=SetTable.below t.place j:=rfl;have hps:(SetTable.insertAt t.place (SetTable.below t.place j) j).size=es.size+1:=by
  rw[<-Array.length_toList,kb _ _ _ hple,List.length_append,List.length_cons,List.length_take,List.length_drop,Array.length_toList];have:=T.p;omega
 have hes:(SetTable.insertAt es (SetTable.below t.place j) (knd.hash k,Value.ref x)).toList.Perm (es.toList ++ [(knd.hash k,Value.ref x)]):=by
  rw[kb _ _ _ (by rw[<-T.p];exact hple)];refine List.perm_middle.trans ?_;rw[List.take_append_drop];exact(List.perm_append_comm (l₁:=[(knd.hash k,Value.ref x)]) (l₂:=es.toList))
 have hess:(SetTable.insertAt es (SetTable.below t.place j) (knd.hash k,Value.ref x)).size=es.size+1:=by
  rw[<-Array.length_toList,hes.length_eq,List.length_append,Array.length_toList];rfl
 have hall:(SetTable.insertAt es (SetTable.below t.place j) (knd.hash k,Value.ref x)).toList.Perm ((bs ++ [(k,x)]).map λp=>(knd.hash p.1,Value.ref p.2)):=by
  rw[List.map_append];exact hes.trans (hp.append_right _)
 rw[hput,hput2];generalize hE:SetTable.insertAt es (SetTable.below t.place j) (knd.hash k,Value.ref x)=es1 at *;generalize hP:SetTable.insertAt t.place (SetTable.below t.place j) j=pl1 at *;have hris:Ris pl1:=by rw[<-hP];exact zj6 T.r hnl
 have key:∀(t1:SetTable) (h1:t1.mask=t.mask) (h2:t1.dummies = #[]) (h3:t1.place=pl1) (h4:t1.led=t.led),wpAny (model prog w) A (do
   storeSet a es1 t1
   if !false && t1.tooFull then setRelay a (SetTable.grown (es.size+1))
   return true) Q E { s with toks:=s.toks+knd.draws k }:=λt1 h1 h2 h3 h4=>by
  have hle:es.size+1<=t1.mask:=by have hf5:=T.f;have hm5:=T.m;rw[h1];rcases hm5 with e|e|e|e <;> omega
  have hfit:t1.fits es1.size=true:=zkg (by rw[h3,hps,hess]) h2 (by rw[hess];exact hle);have hzs:es1.size<scanBound:=by rw[hess,hsz,show scanBound=4096 from rfl];omega
  refine wpAny_bind (wpAny_storeSet_of (s:={ s with toks:=s.toks+knd.draws k }) ho hd ?_ (fits_of_scanBound hzs));have hg:(s.heap.update a (Obj.putSet es1 t1)).get? a=some { o with data:=.set es1 (ep+1) t1 }:=by
   have:=Heap.get?_update_self (Obj.putSet es1 t1) ho (by rw[putSet_of es1 t1 hd];rfl);rw[putSet_of es1 t1 hd]at this;exact this
  have sb1:=Heap.SameBut.update s.heap a (Obj.putSet es1 t1);have isB:∀{h':Heap},Heap.SameBut a s.heap h'->∀p∈bs ++ [(k,x)],knd.is h' p.1 p.2:=λ{h'} sb p hp'=>by
   have mv:∀{k':K}{b:Addr},knd.is s.heap k' b->knd.is h' k' b:=λ{k' b} hb'=>knd.pers hb' λc oc e1 e2=>(sb.2 c (sets c oc e1 e2)).trans e1;rcases List.mem_append.mp hp' with z|z
   ·exact mv (hb p z)
   ·rw[List.mem_singleton.mp z];exact mv hx
  by_cases c:t1.tooFull=true
  ·rw[if_pos (by rw[c];rfl)];have c':=c;unfold SetTable.tooFull SetTable.fill at c';rw[h2,h3,hps,h1]at c';simp only[List.size_toArray,List.length_nil,Nat.add_zero,ge_iff_le,decide_eq_true_eq]at c'
   have hm3:∃m,OkM m/\SetTable.sizeAbove (SetTable.grown (es.size+1))=m+1/\(es.size+1) * 5<m * 3:=by
    have:=T.f;rcases T.m with e|e|e|e <;> rw[e]at c' this
    ·have z:es.size=4:=by omega
     rw[z];exact⟨31,.inr (.inl rfl),by decide +kernel,by decide⟩
    ·have z:es.size=18:=by omega
     rw[z];exact⟨127,.inr (.inr (.inl rfl)),by decide +kernel,by decide⟩
    ·have z:es.size=76:=by omega
     rw[z];exact⟨511,.inr (.inr (.inr rfl)),by decide +kernel,by decide⟩
    ·omega
   obtain⟨m,hm,hw,hlt⟩:=hm3;refine wpAny_bind (zgy (s:={ s with heap:=s.heap.update a (Obj.putSet es1 t1),toks:=s.toks+knd.draws k }) hg rfl hfit hm hw (by rw[hess];exact hlt) (by rw[h4];exact T.l) hzs λes2 t2 hp2 T2=>?_);refine wpAny_pure (q _ _ (Nat.le_add_right _ _) (sb1.trans (Heap.SameBut.update _ a _)) ⟨{ o with data:=.set es2 (ep+1+1) t2 },es2,ep+1+1,t2,?_,hex,rfl,hp2.trans hall,isB (sb1.trans (Heap.SameBut.update _ a _)),T2⟩);have:=Heap.get?_update_self (Obj.putSet es2 t2) hg (by rw[putSet_of es2 t2 rfl];rfl);rw[putSet_of es2 t2 rfl]at this;exact this
  ·rw[if_neg (by simp[c])];refine wpAny_pure (q _ _ (Nat.le_add_right _ _) sb1 ⟨{ o with data:=.set es1 (ep+1) t1 },es1,ep+1,t1,hg,hex,rfl,hall,isB sb1,⟨by rw[h1];exact T.m,h2,by rw[h3,hps,hess],by rw[h3];exact hris,?_,by rw[h4];exact T.l⟩⟩)
   have c':¬ (t1.mask * 3<=(es.size+1) * 5):=by
    intro z;refine c ?_;unfold SetTable.tooFull SetTable.fill;rw[h2,h3,hps];simpa using z
   rw[hess];omega
 split
 ·refine wpAny_bind (knd.hv (s:={ s with toks:=s.toks+knd.draws k }) hx λb=>?_)
  cases b with
  |true=>exact key _ rfl T.d rfl rfl
  |false=>exact key _ rfl T.d rfl rfl
 ·refine wpAny_bind (wpAny_pure ?_);exact key _ rfl T.d rfl rfl
end
end PySem
namespace PySem
open STB SV
section
variable {prog:Program}{w:World}{K:Type}[DecidableEq K]{knd:KeyKind prog w K}{A:Around}{E:Value->Shared->Prop}{s:Shared}
theorem jo(n:Nat){v:Value}(h:carriedByValue v=true):∃b,hashByValue n v=pure b:=by
 cases v with
 |ref a=>simp[carriedByValue]at h
 |_=>first|exact⟨_,rfl⟩ |(unfold hashByValue;exact⟨_,rfl⟩)
theorem zbe(n:Nat){v:Value}(h:carriedByValue v=true):ofAClassStatement n v=pure false:=by
 cases v with
 |ref a=>simp[carriedByValue]at h
 |_=>first|rfl |(unfold ofAClassStatement;rfl)
theorem zt2{ks:List K}{a:Addr}{Q:Bool->Shared->Prop}(hk:IsTupleKey knd s.heap ks a)(q:∀b,Q b s):wpAny (model prog w) A (hashByValue 8 (.ref a)) Q E s:=by
 have hT:=hk.typeIs;obtain⟨o,items,n,ho,_,hd,hi⟩:=hk;unfold hashByValue;refine wpAny_bind (wpAny_specialOf hT F.slot_tuple_hash.lookup ?_);dsimp only;refine wpAny_bind (wpAny_seqItems ho hd ?_);refine wpAny_bind ?_;show wpAny _ _ (forIn items _ _) _ _ s;rw[<-Array.forIn_toList];refine wpAny_forIn_list _ (λrest r s'=>s'=s/\∀v∈rest,carriedByValue v=true) _ ?_ ?_ _ _ ⟨rfl,hi.byValue⟩
 ·rintro v rest r s' ⟨rfl,hall⟩;obtain⟨b,e⟩:=jo 7 (hall v List.mem_cons_self);rw[e];refine wpAny_bind (wpAny_pure ?_)
  cases b with
  |true=>
   simp only[Bool.not_true,Bool.false_eq_true,if_false];exact wpAny_pure ⟨rfl,λu hu'=>hall u (List.mem_cons_of_mem _ hu')⟩
  |false=>
   simp only[Bool.not_false,if_true];exact wpAny_pure (wpAny_pure (q _))
 ·rintro ⟨r1,r2⟩ s' ⟨rfl,_⟩
  cases r1 with
  |none=>exact wpAny_pure (q _)
  |some b=>exact wpAny_pure (q _)
theorem zqj{ks:List K}{a:Addr}{Q:Bool->Shared->Prop}(hk:IsTupleKey knd s.heap ks a)(q:Q false s):wpAny (model prog w) A (ofAClassStatement 8 (.ref a)) Q E s:=by
 have hT:=hk.typeIs;obtain⟨o,items,n,ho,_,hd,hi⟩:=hk;unfold ofAClassStatement;refine wpAny_bind (wpAny_typeOf hT ?_);dsimp only;rw[if_pos (by decide)];refine wpAny_bind (wpAny_pure ?_);simp only[Bool.not_true,Bool.false_eq_true,if_false];refine wpAny_bind (wpAny_seqItems ho hd ?_);dsimp only;refine wpAny_bind ?_;show wpAny _ _ (forIn items _ _) _ _ s;rw[<-Array.forIn_toList];refine wpAny_forIn_list _ (λrest r s'=>r.1=none/\s'=s/\∀v∈rest,carriedByValue v=true) _ ?_ ?_ _ _ ⟨rfl,rfl,hi.byValue⟩
 ·rintro v rest r s' ⟨hr,rfl,hall⟩;rw[zbe _ (hall v List.mem_cons_self)];refine wpAny_bind (wpAny_pure ?_);simp only[Bool.false_eq_true,if_false];exact wpAny_pure ⟨rfl,rfl,λu hu'=>hall u (List.mem_cons_of_mem _ hu')⟩
 ·rintro ⟨r1,r2⟩ s' ⟨hr,rfl,_⟩;simp only at hr;subst hr;exact wpAny_pure q
def zxx(knd:KeyKind prog w K):zgw prog w (List K) where
 toHeapKind:=tupleKind knd
 pers:=λ{h h' k a} x y=>by
  obtain⟨o,items,n,ho,hc,hd,hi⟩:=x;exact⟨o,items,n,y a o ho hc,hc,hd,hi⟩
 hv:=λhk q=>zt2 hk q
 stm:=λhk q=>zqj hk q
end
section
open PyProof.Rows
variable {prog:Program}{w:World}{K:Type}[DecidableEq K](knd:zgw prog w K){A:Around}{R:Result->Shared->Prop}{I:Addr}{fp wr:List Addr}{G:Array GenState->Array GenState->Prop}{n:Nat}{P:Nat->Value->Prop}{St:Nat->Shared->Prop}
theorem vj(W:WalksS prog w A.in1 I fp wr G n P St)(S:Addr)(hSf:S∉fp)(bs:List (K×Addr))(hr:knd.room A.in1)
  (hval:∀i v,P i v->∃p,bs[i]?=some p/\v=.ref p.2) (hn:n=bs.length) (hb:bs.length<=300) (hx:∀i s b o,St i s->b∈wr->s.heap.get? b=some o->o.cls ≠ .type "tuple") (hnd:bs.Pairwise λp q=>p.1≠q.1) :
  ∀(k i:Nat) (s:Shared),n-i=k->i<=n->St i s->(∀p∈bs,knd.is s.heap p.1 p.2) ->
   Heap.SetH knd s.heap S (bs.take i) ->
   (∀s',Moved (S::wr) G s s'->Heap.SetH knd s'.heap S bs->R (.ok (.ret .none)) s') ->
   codeAny (model prog w) A (.builtin "set.update.loop" ⟨[.ref S,.ref I],[]⟩) R s:=by
 have hSw:S∉wr:=λh=>hSf (W.sub _ h);have hsub:∀b∈wr,b∈S::wr:=λb hb=>List.mem_cons_of_mem _ hb;have carry:∀{i:Nat}{s s':Shared},St i s->Moved wr G s s'->(∀p∈bs,knd.is s.heap p.1 p.2)->(∀p∈bs,knd.is s'.heap p.1 p.2):=λ{i s s'} st hm hk p hp=>
  knd.pers (hk p hp) λb o e1 e2=>hm.heap b o (λz=>hx i s b o st z e1 e2) e1
 have mvS:∀{s s':Shared}{cs:List (K×Addr)},Moved wr G s s'->(∀p∈bs,knd.is s'.heap p.1 p.2)->(∀p∈cs,p∈bs)->Heap.SetH knd s.heap S cs->Heap.SetH knd s'.heap S cs:=λhm hk hc hS=>by
  obtain⟨o,es,ep,t,ho,h1,h2,h3,h4,h5⟩:=hS;exact⟨o,es,ep,t,hm.heap S _ hSw ho,h1,h2,h3,λp hp=>hk p (hc p hp),h5⟩
 intro k
 induction k with
 |zero=>
  intro i s hk hi hst hkk hS hR;have hin:i=n:=by omega
  subst hin;refine codeAny_builtin PyProof.Rows.F.entry_set_update_loop ?_;rw[Around.under_plainId PyProof.Rows.F.plain_set_update_loop _];show wpAny _ A.in1 (pyNext (.ref I) >>= _) _ _ s;refine wpAny_bind (W.done s _ _ hst λs' hm=>?_);show wpAny _ A.in1 (ret Value.none) _ _ s';rw[hn,List.take_length]at hS;exact wpAny_pure (hR s' (hm.mono hsub) (mvS hm (carry hst hm hkk) (λ_ h=>h) hS))
 |succ k ih=>
  intro i s hk hi hst hkk hS hR;have hlt:i<n:=by omega
  refine codeAny_builtin PyProof.Rows.F.entry_set_update_loop ?_;rw[Around.under_plainId PyProof.Rows.F.plain_set_update_loop _];show wpAny _ A.in1 (pyNext (.ref I) >>= _) _ _ s;refine wpAny_bind (W.item i s _ _ hlt hst λv s' hP hst' hm=>?_);obtain⟨p,hp,rfl⟩:=hval i v hP;have hpm:p∈bs:=List.mem_of_getElem? hp;have hk':=carry hst hm hkk;have hS':=mvS hm hk' (λq hq=>List.mem_of_mem_take hq) hS;show wpAny _ A.in1 (holding [Value.ref p.2] (setAdd S (.ref p.2)) >>= _) _ _ s';refine wpAny_bind (wpAny_holding ?_);refine zbd knd (k:=p.1) hr hS' (hk' p hpm) ?_ ?_ λh' tk htk hsb hS2=>?_
  ·intro q hq z;obtain⟨m,hm2,hm3⟩:=List.getElem_of_mem hq;have hlt2:m<i:=by rw[List.length_take]at hm2;omega
   have hi3:i<bs.length:=by omega
   have hp3:bs[i]=p:=(List.getElem?_eq_some_iff.mp hp).2;rw[List.getElem_take]at hm3;have:=List.pairwise_iff_getElem.mp hnd m i (by omega) hi3 hlt2;rw[hm3,hp3]at this;exact this z
  ·rw[List.length_take];omega
  ·have hSi:Heap.SetH knd h' S (bs.take (i+1)):=by
    have hi3:i<bs.length:=by omega
    have hp3:bs[i]=p:=(List.getElem?_eq_some_iff.mp hp).2;rw[List.take_succ_eq_append_getElem hi3,hp3];exact hS2
   have hk2:∀q∈bs,knd.is h' q.1 q.2:=λq hq=>knd.pers (hk' q hq) λb o e1 e2=>by
    rw[hsb.2 b (λz=>?_)];exact e1;obtain⟨o2,es,ep,t,ho,h1,_⟩:=hS';rw[z,ho]at e1
    cases e1;rw[h1.1]at e2;injection e2 with e2
    exact absurd e2 (by decide)
   refine wpAny_pure ⟨plainId_quiet PyProof.Rows.F.plain_set_update_loop _,ih (i+1) _ (by omega) hlt (W.frame _ s' _ _ hst' htk λb hb o e=>?_) hk2 hSi λs'' hm'' hS''=>?_⟩
   ·rw[hsb.2 b (λh:b=S=>hSf (by rw[<-h];exact hb))];exact e
   ·refine hR s'' (Moved.trans W.gtrans ((hm.mono hsub).then_heap htk λb o hb e=>?_) hm'') hS'';rw[hsb.2 b (λh:b=S=>hb (by rw[h];exact List.mem_cons_self))];exact e
end
section
variable {prog:Program}{w:World}{K:Type}[DecidableEq K](knd:zgw prog w K){A:Around}{E:Value->Shared->Prop}{s:Shared}
end
end PySem
namespace L2
open PySem PySem.Spec PyProof.Rows SQ
theorem ziz{P:Program}{w:World}{ns:List Int}{us:List Value}(h:IntsAre us ns):ItemsAre (intKind P w) ns us:=by
 induction h with
 |nil=>exact .nil
 |cons n t _ ih=>exact .cons (intKind_is _ _ _ _) ih
theorem zqk{X:Cx}{pins:List (Addr×Obj)}{σ:St}{H:Hp}{s:Shared}{a:Addr}{ns:List Int}(I:Inv X pins σ H s)(h:SqT X.K H a (ns.map V.int)):IsTupleKey (intKind X.prog X.w) s.heap ns a:=by
 obtain⟨its,r,⟨o,ho,hc,n,hd⟩,_⟩:=I.tuple h;exact⟨o,_,n,ho,hc,hd,by simpa using ziz (xk r)⟩
theorem zek{K:PySem.W.Frag}{H:Hp}:∀{ks:List (List Int)}{vs:List V},Reps K H (ks.map tD) vs->∃bs:List (List Int×Addr),bs.map (·.1)=ks/\vs=bs.map (λp=>V.ref p.2)/\∀p∈bs,SqT K H p.2 (p.1.map V.int)
 |[],vs,h=>by cases h;exact⟨[],rfl,rfl,λp hp=>nomatch hp⟩
 |k::ks,vs,h=>by
  cases h with
  |cons r t=>
   obtain⟨bs,e1,e2,e3⟩:=zek t;obtain⟨a,us,rfl,h1,h2⟩:=RepT.tuple (.inl r);have:=Reps.of_ints h2;subst this;refine⟨(k,a)::bs,by rw[List.map_cons,e1],by rw[e2];rfl,λp hp=>?_⟩;rcases List.mem_cons.mp hp with rfl|hp
   ·exact h1
   ·exact e3 p hp
theorem zlt{bs:List (List Int×Addr)}{us:List Value}(h:Vals (bs.map λp=>V.ref p.2) us):us=bs.map λp=>Value.ref p.2:=by
 induction bs generalizing us with
 |nil=>cases h;rfl
 |cons p bs ih=>
  cases h with
  |cons r t=>
   cases r;rw[ih t];rfl
section
variable {X:Cx}{a:Expr}{p pos p2 pos2:Pos}
end
end L2
namespace PySem
open STB SV
theorem zlu{h:Heap}{it l:Addr}{i:Nat}{o:Obj}(hit:h.IsTupleIter it l i)(e:h.get? it=some o):o.cls ≠ .type "tuple" := by
 obtain⟨o2,ho,hc,_⟩:=hit;rw[ho]at e
 cases e;rw[hc];intro z;injection z with z
 exact absurd z (by decide)
section
variable {prog:Program}{w:World}{K:Type}[DecidableEq K](knd:zgw prog w K){A:Around}{E:Value->Shared->Prop}{s:Shared}
theorem zbz{l:Addr}{items:Array Value}{bs:List (K×Addr)}{Q:Value->Shared->Prop}
  (hh:A.handled=none) (hl:s.heap.IsTuple l items) (hr:knd.room A.in1.in1.in1) (hi:items.toList=bs.map λp=>Value.ref p.2) (hb:bs.length<=300) (hk:∀p∈bs,knd.is s.heap p.1 p.2) (hnd:bs.Pairwise λp q=>p.1≠q.1)
  (h:∀(h':Heap) (tk:Nat),Heap.SetH knd h' s.heap.objs.size bs ->
   (∀b o,b<s.heap.objs.size->s.heap.get? b=some o->h'.get? b=some o)->Q (.ref s.heap.objs.size) { s with heap:=h',toks:=tk }) :
  wpAny (model prog w) A (call (.type "set") [.ref l]) Q E s:=by
 have hsz:items.size=bs.length:=by rw[<-Array.length_toList,hi,List.length_map]
 obtain⟨c,tl,hmro⟩:=F.called_set.mro;have hmade:=F.called_set.made;have hsub:=F.called_set.sub;refine wpAny_call (codeAny_of_tree ?_);show wpAny _ _ (callAny (.type "set") _) _ _ _;refine wpAny_pure ⟨Code.quiet_builtin _ (by decide +kernel),codeAny_builtin F.entry_type_call ?_⟩;rw[Around.under_plain (weight_type_call_type "set" [.ref l] []) rfl];have h1:=F.called_set.notType;have h2:=F.called_set.canCreate;have hct:=F.typeCall_set_1 (.ref l)
 repeat (any_goals (first|assumption|wp_step))
 refine codeAny_mono (qp (.ref l) (E:=E) (Q₁:=λobj s₁=>∃led:Bool,led = !w.params.followText "set-order" /\ obj=.ref s.heap.objs.size/\s₁ = { s with heap:=s.heap.push { cls:=.type "set",dict:=none,data:=.set #[] 0 (.fresh 0 0 led) } }) ⟨_,rfl,rfl,rfl⟩) λr s₁ hr=>?_
 cases r with
 |error e=>exact hr
 |ok fl=>
  cases fl with
  |ret obj=>
   obtain⟨led,hled,rfl,rfl⟩:=hr;have hS:(s.heap.push { cls:=.type "set",dict:=none,data:=.set #[] 0 (.fresh 0 0 led) }).get? s.heap.objs.size=some { cls:=.type "set",dict:=none,data:=.set #[] 0 (.fresh 0 0 led) }:=Heap.get?_push_size _ rfl;have hT:Shared.TypeIs { s with heap:=s.heap.push { cls:=.type "set",dict:=none,data:=.set #[] 0 (.fresh 0 0 led) } } (.ref s.heap.objs.size) "set" :=⟨_,hS,rfl⟩
   have hli:=F.called_set.init.lookup;have hbi:=F.called_set.init.bind (.ref s.heap.objs.size)
   repeat (any_goals (first|assumption|wp_step))
   refine codeAny_mono (codeAny_call_builtin (R:=wants (λr s₂=>r=.none/\∃h' tk,s₂ = { s with heap:=h',toks:=tk } /\
     Heap.SetH knd h' s.heap.objs.size bs /\
     (∀b o,b<s.heap.objs.size->s.heap.get? b=some o->h'.get? b=some o)) E) F.called_set.init.plain F.entry_set_init (check_set_init_1 hT ?_)) λr₂ s₂ hr₂=>?_
   ·obtain⟨ol,hol,hcl,nl,hdl⟩:=hl;obtain⟨ocls,odict,odata,oslots⟩:=ol;simp only at hcl hdl;subst hcl;subst hdl;have hol':(s.heap.push { cls:=.type "set",dict:=none,data:=.set #[] 0 (.fresh 0 0 led) }).get? l=some { cls:=.type "tuple",dict:=odict,data:=.seq items nl,slots:=oslots }:=Heap.get?_push_of_some _ hol;have hsls:=F.sub_tuple_set;have hslf:=jn;have hne:(Value.type "tuple" == Value.type "dict")=false:=by decide
    have hl1:(s.heap.push { cls:=.type "set",dict:=none,data:=.set #[] 0 (.fresh 0 0 led) }).IsTuple l items:=⟨_,hol',rfl,nl,rfl⟩
    unfold Builtin.«set.__init__» noKeywords Builtin.Frozenset.updateFrom;generalize hPI:pyIter=PI
    wp_walk
    subst hPI;refine wpAny_pyIter_tuple hl1 ?_;refine wpAny_bind (wpAny_runValue ?_);have hlS:l<s.heap.objs.size:=Heap.lt_size hol;have hh3:A.in1.in1.in1.handled=none:=by simp[hh]
    have hneI:l≠(s.heap.push { cls:=.type "set",dict:=none,data:=.set #[] 0 (.fresh 0 0 led) }).objs.size:=by
     rw[Heap.size_push];exact Nat.ne_of_lt (Nat.lt_succ_of_lt hlS)
    have hSf:s.heap.objs.size ∉ [(s.heap.push { cls:=.type "set",dict:=none,data:=.set #[] 0 (.fresh 0 0 led) }).objs.size,l]:=by
     rw[Heap.size_push];simp only[List.mem_cons,List.mem_singleton,List.not_mem_nil,or_false,not_or];exact⟨Nat.ne_of_lt (Nat.lt_succ_self _),Nat.ne_of_gt hlS⟩
    have hat:∀{b:Addr}{o:Obj},s.heap.get? b=some o->((s.heap.push { cls:=.type "set",dict:=none,data:=.set #[] 0 (.fresh 0 0 led) }).push { cls:=.type "tuple_iterator",data:=.fields #[.ref l,.int 0 0] }).get? b=some o:=λe=>Heap.get?_push_of_some _ (Heap.get?_push_of_some _ e);refine vj knd ((Walks.tuple hh3 _ l hneI items).toS) s.heap.objs.size
     hSf bs hr (λi v hv=>by
      rw[<-Array.getElem?_toList,hi,List.getElem?_map]at hv;obtain⟨p,e1,e2⟩:=Option.map_eq_some_iff.mp hv;exact⟨p,e1,e2.symm⟩) hsz hb
     (λi s' b o st hb e=>by
      rw[List.mem_singleton.mp hb]at e;exact zlu st.1 e)
     hnd (items.size-0) 0 _ (by omega) (Nat.zero_le _)
     ⟨⟨_,Heap.get?_push_size _ rfl,rfl,rfl⟩,(hl1.push _)⟩ (λp hp=>knd.pers (hk p hp) λb o e1 _=>hat e1) ?hS0 ?hR
    case hS0=>
     have hget:((s.heap.push { cls:=.type "set",dict:=none,data:=.set #[] 0 (.fresh 0 0 led) }).push { cls:=.type "tuple_iterator",data:=.fields #[.ref l,.int 0 0] }).get? s.heap.objs.size
       = some { cls:=.type "set",dict:=none,data:=.set #[] 0 (.fresh 0 0 led) }:=Heap.get?_push_of_some _ hS
     exact⟨_,#[],0,_,hget,⟨rfl,rfl,rfl⟩,rfl,List.Perm.refl _,λp hp=>by simp at hp,⟨.inl rfl,rfl,rfl,List.Pairwise.nil,show 0 * 5<7 * 3 by decide,hled⟩⟩
    case hR=>
     intro s' hm hS';obtain⟨h',g',d',tk',os'⟩:=s';have eg:g'=s.gens:=hm.gens;have ed:d'=s.drawn:=hm.drawn;have eo:os'=s.os:=hm.os;subst eg;subst ed;subst eo;show wpAny _ _ _ _ _ _;refine wpAny_pure ?_;show wpAny _ _ (ret Value.none) _ _ _;refine wpAny_pure ⟨rfl,h',tk',rfl,hS',λb o hb e=>?_⟩;have hb1:b≠s.heap.objs.size:=Nat.ne_of_lt hb;have hb2:b≠(s.heap.push { cls:=.type "set",dict:=none,data:=.set #[] 0 (.fresh 0 0 led) }).objs.size:=by
      rw[Heap.size_push];exact Nat.ne_of_lt (Nat.lt_succ_of_lt hb)
     exact hm.heap b o (by simp only[List.mem_cons,List.mem_singleton,List.not_mem_nil,or_false,not_or];exact⟨hb1,hb2⟩) (Heap.get?_push_of_some _ (Heap.get?_push_of_some _ e))
   ·cases r₂ with
    |error e=>exact hr₂
    |ok fl₂=>
     cases fl₂ with
     |ret r=>
      obtain⟨rfl,h',tk,rfl,hS',hk'⟩:=hr₂
      repeat (any_goals (first|assumption|wp_step))
      exact h _ _ hS' hk'
     |_=>exact hr₂.elim
  |_=>exact hr.elim
end
end PySem
namespace L2
open PySem PySem.Spec PyProof.Rows SQ
section
variable {X:Cx}
theorem zlv{pins:List (Addr×Obj)}{σ:St}{H:Hp}{s:Shared}{Q:List D->Prop}{tss:List (List Int)}{vs:List V}{us:List Value}{a:Addr}{o:Obj}{es:Array (Int×Value)}{ep:Nat}{t:SetTable}(I:Inv X pins σ H s)(hc:X.calm=true)(r:Reps X.K H (tss.map tD) vs)(rv:Vals vs us)
  (ho:s.heap.get? a=some o) (hex:o.ExactSet) (hd:o.data=.set es ep t) (hf:t.fits es.size=true) (tb:SV.Tb w t) (hw:X.w=w) (pu:(es.toList.map (·.2)).Perm us) (h64:us.length<64) (hne:∀t∈tss,t ≠ []) (q:Q ((qo tss).map tD)) :
  wpAny (model X.prog X.w) X.A (call (.builtin "sorted") [.ref a]) (zci X pins σ H Q) X.xe s:=by
 subst hw;have hz:es.size=us.length:=by rw[<-pu.length_eq,List.length_map,Array.length_toList]
 refine Calls.call_function_entry kind_sorted plain_sorted entry_sorted (args_sorted1 _) ?_;unfold Builtin.«sorted»;refine wpAny_bind (m:=checkCount "sorted" 1 1 _) (wpAny_pure ?_);refine wpAny_bind (SV.collect_set (I.ok.hd hc) ho hex hd hf tb (by rw[sizeLine_eq];omega) λh1 d1 tk ws pv k1 le=>?_);have pw:=pv.trans pu;have hl:ws.length=us.length:=pw.length_eq;obtain⟨vs1,ds1,rv1,r1,pd1⟩:=jg pw rv r;obtain⟨ss1,rfl,ps1⟩:=zag deT zim pd1;have rf:=zaf I r1 rv1;have hk:∀v∈ws,∃k,(zcr s.heap).keyOf v=some k:=λv hv=>by
  obtain⟨t,_,h⟩:=rf.mem hv;exact⟨t,jf h⟩
 refine wpAny_bind (wpAny_newList ?_ (by rw[sizeLine_eq];omega));have gL:(h1.push (seqObj "list" ws.toArray 0)).get? h1.objs.size=some (seqObj "list" ws.toArray 0):=Heap.get?_push_size _ rfl;have kp:∀{h':Heap},(∀b o,b≠h1.objs.size->(h1.push (seqObj "list" ws.toArray 0)).get? b=some o->h'.get? b=some o)->∀b o,s.heap.get? b=some o->h'.get? b=some o:=λ{h'} k b o e=>
  k b o (Nat.ne_of_lt (Heap.lt_size (k1 b o e))) (Heap.get?_push_of_some _ (k1 b o e))
 show wpAny _ _ _ _ _ { s with heap:=h1.push (seqObj "list" ws.toArray 0),drawn:=d1,toks:=tk };refine wpAny_bind (wpAny_holding (wpAny_call_entry slot_list_sort ⟨_,gL,rfl⟩ entry_list_sort (zbu (κ:=zcr s.heap) (kd:=tuples' true) gL (by rw[sizeLine_eq];omega) (by omega) (λh' k=>zj0 (kp k)) (qf hk) (λh2 h' Q' k q=>zea (rf.imp λ_ _ h=>h.keep (kp k)) (λt ht=>hne t (ps1.mem_iff.mp ht)) h2 q) λout p1 p2=>⟨_,rfl,?_⟩) (args_list_sort _)));refine wpAny_pure ⟨_,rfl,?_⟩;obtain⟨e,he⟩:=sortedHeap_at (n:=0) (out:=out.map (·.2)) gL;obtain⟨pm,ks,a2,pwk⟩:=za7 p1 p2 hk;obtain⟨vs',ds',rv',r',pd⟩:=jg pm rv1 r1;obtain⟨ss,rfl,pms⟩:=zag deT zim pd;have rf':=zaf I r' rv';have ek:ks=ss:=by
  clear pm pms pwk r' rv' pd he;generalize (out.map (·.2)).toList=l at rf' a2
  induction a2 generalizing ss with
  |nil=>cases rf';rfl
  |cons h t ih=>
   cases rf' with
   |cons h1 t1=>
    have:=jf h1;rw[show(zcr s.heap).keyOf _=jz s.heap _ from rfl,this]at h
    cases h;rw[ih _ t1]
 subst ek;have eq:=qg (pms.trans ps1) (pwk.imp λh=>by simpa[zcr,KeyOrd.kle]using h);have hp:s.heap.objs.size<=h1.objs.size:=Nat.le_of_lt le;have hn:=I.hok.fresh hp;have lv:vs'.length<=sizeLine:=by rw[rv'.length,pm.length_eq,sizeLine_eq];omega
 exact⟨_,_,vs',_,rfl,(I.dr d1).laid (t':=tk) (o:=.lst vs') (λb o z=>by
   have hb:b<h1.objs.size:=Heap.lt_size (k1 b o z);rw[sortedHeap_old (Nat.ne_of_lt hb) (by rw[Heap.size_push];exact Nat.lt_succ_of_lt hb)];exact Heap.get?_push_of_some _ (k1 b o z)) hp ⟨lv,(out.map (·.2)).toList,e,rv',by rw[he]⟩,yc hn _,hn,zx,r'.same (yc hn _),by rw[eq];exact q⟩
end
section
variable {X:Cx}{a:Expr}{p pos p2 pos2:Pos}
def zxy(X:Cx)(ta:TA):TE:=λσ H Q=>ta σ H λvs H1=>∃(b:Addr) (tss:List (List Int)) (ws:List V),vs = [.ref b]/\SqT X.K H1 b ws/\Reps X.K H1 (tss.map tD) ws/\tss.length<64/\tss.Nodup/\(∀t∈tss,t ≠ [])/\∀(d:Addr) (H2:Hp) (vs':List V),Same H1 H2->H1 d=none->H2 d=some (.lst vs')->Reps X.K H2 ((qo tss).map tD) vs'->Q (.ref d) H2
theorem zgz{k':Nat}{ta:TA}(hr:Room k' X.A)(hgl:Gl X "sorted")(hml:X.mg "sorted" = none)(hg:Gl X "set")(hm:X.mg "set" = none)(hc:X.calm=true)(ha:PA X [a] ta)(hs:starEach [a] X.env = [(false,eval a X.env)]:=by rfl)
  (hs2:starEach [.Call (.Name "set" p2) [a] [] pos2] X.env = [(false,eval (.Call (.Name "set" p2) [a] [] pos2) X.env)]:=by rfl) :
  PE X (.Call (.Name "sorted" p) [.Call (.Name "set" p2) [a] [] pos2] [] pos) (zxy X ta):=by
 intro pins s σ H Q I h;refine Call_ (wk I hgl hml PyProof.Rows.boot_sorted (PyProof.Rows.callWith_builtin1 ?_ hs2 rfl));rw[hs2];show wpAny _ _ (spliced ((false,eval (.Call (.Name "set" p2) [a] [] pos2) X.env)::backTo pos [])) _ _ s;refine Calls.spliced_cons ?_;refine Call_ (wk I hg hm PyProof.Rows.boot_set (PyProof.Rows.callWith_type1 (thn (ha pos2 pins s σ H _ I h) λus s1 ⟨vs,H1,I1,r1,q1⟩=>?_) hs rfl));obtain⟨b,tss,ws,e,hb,hrp,hl,nd,hne,q⟩:=q1;subst e
 cases r1 with
 |cons r rr=>
  cases rr
  cases r;obtain⟨its,rvs,itp,hz⟩:=I1.tuple hb;obtain⟨bs,e1,rfl,ht⟩:=zek hrp;have hits:=zlt rvs;subst hits;subst e1;have lb:bs.length<64:=by rwa [List.length_map]at hl
  refine zbz (knd:=zxx (intKind X.prog X.w)) (bs:=bs) (I.ok.hd hc) itp (show _<cLine by simp only[Around.in1_units];have:=hr.un;omega) (by simp) (by omega) (λp hp=>zqk I1 (ht p hp)) ((List.pairwise_map.mp nd).imp λh=>h) λh1 tk hS hk=>Calls.spliced_nil ?_;obtain⟨so,es,ep,t,hso,hex,hsd,hp,hb2,T⟩:=hS;have I2:Inv X pins σ H1 { s1 with heap:=h1,toks:=tk }:=I1.kept λb u e=>hk b u (Heap.lt_size e) e;refine wpAny_mono (zlv (Q:=λxs=>xs=(qo (bs.map (·.1))).map tD) I2 hc hrp rvs hso hex hsd T.fits ⟨T.r,T.l⟩ rfl (by
   refine(hp.map (·.2)).trans ?_;rw[List.map_map];exact List.Perm.refl _) (by rw[List.length_map];exact lb) hne rfl) ?_ λ_ _ e=>e
  rintro u s' ⟨d,H2,vs',xs,rfl,I',sm,hn,hg2,rp,rfl⟩;exact⟨.ref d,H2,I',rfl,q d H2 vs' sm hn hg2 rp⟩
def zt3(t:DTF):DTF:=λσ Q=>t σ λds=>match ds with
 |[.tuple ds]=>∃tss:List (List Int),ds=tss.map tD/\tss.length<64/\tss.Nodup/\(∀t∈tss,t ≠ [])/\Q ((qo tss).map tD)
 |_=>False
theorem zg0{k':Nat}{t:DTF}(hr:Room k' X.A)(hgl:Gl X "sorted")(hml:X.mg "sorted" = none)(hg:Gl X "set")(hm:X.mg "set" = none)(hc:X.calm=true)(ha:DA X [a] t)(hs:starEach [a] X.env = [(false,eval a X.env)]:=by rfl)
  (hs2:starEach [.Call (.Name "set" p2) [a] [] pos2] X.env = [(false,eval (.Call (.Name "set" p2) [a] [] pos2) X.env)]:=by rfl) :
  DF X (.Call (.Name "sorted" p) [.Call (.Name "set" p2) [a] [] pos2] [] pos) (zt3 t) :=
 DF.of (zgz hr hgl hml hg hm hc ha.pa hs hs2) λσ H H₀ σD QD ok q=>⟨H₀,σD,_,ok,q,λvs H1 ds s1 r1 q1=>by
  match ds,r1,q1 with
  |[.tuple ds],r1,q1=>
   cases r1 with
   |cons r t=>
   cases t;obtain⟨b,us,rfl,hb,r⟩:=RepT.tuple (.inl r);obtain⟨tss,rfl,hl,nd,hne,q1⟩:=q1;refine⟨b,tss,us,rfl,hb,r,hl,nd,hne,λd H2 vs' sm hd hg2 rp=>?_⟩;have n1:H d=none:=by
    cases z:H d with
    |none=>rfl
    |some u=>rw[s1 d u z]at hd;cases hd
   exact⟨d,_,_,rfl,s1.trans sm,n1,hg2,rp,q1⟩⟩
def zxz(X:Cx)(ta:TA):TE:=λσ H Q=>ta σ H λvs H1=>∃(b:Addr) (ns:List Int),vs = [.ref b]/\SqL X.K H1 b (ns.map V.int)/\ns.length<=4000/\ns.Nodup/\Q (.int ns.length) H1
theorem zi0{ta:TA}(hgl:Gl X "len")(hml:X.mg "len" = none)(hg:Gl X "set")(hm:X.mg "set" = none)(hc:X.calm=true)(ha:PA X [a] ta)(hs:starEach [a] X.env = [(false,eval a X.env)]:=by rfl)
  (hs2:starEach [.Call (.Name "set" p2) [a] [] pos2] X.env = [(false,eval (.Call (.Name "set" p2) [a] [] pos2) X.env)]:=by rfl) :
  PE X (.Call (.Name "len" p) [.Call (.Name "set" p2) [a] [] pos2] [] pos) (zxz X ta):=by
 intro pins s σ H Q I h;refine Call_ (wk I hgl hml PySem.boot_len (PyProof.Rows.callWith_builtin1 ?_ hs2 rfl));rw[hs2];show wpAny _ _ (spliced ((false,eval (.Call (.Name "set" p2) [a] [] pos2) X.env)::backTo pos [])) _ _ s;refine Calls.spliced_cons ?_;refine Call_ (wk I hg hm PyProof.Rows.boot_set (PyProof.Rows.callWith_type1 (thn (ha pos2 pins s σ H _ I h) λus s1 ⟨vs,H1,I1,r1,q1⟩=>?_) hs rfl));obtain⟨b,ns,e,hb,hl,nd,q⟩:=q1;subst e
 cases r1 with
 |cons r rr=>
  cases rr
  cases r;obtain⟨its,rvs,plq,hz⟩:=I1.list hb;have hi:=xk rvs;have hln:ns.length=its.length:=by have:=rvs.length;rwa [List.length_map]at this
  refine zcx (items:=its.toArray) (ns:=ns) (I.ok.hd hc) plq.isList (by simpa using hi) (by simp[scanBound];omega) λh1 tk hS hk=>Calls.spliced_nil ?_;rw[show its.toArray.size=ns.length by simp[hln]]at hS;obtain⟨so,es,ep,t,ks,hso,hex,hsd,hf,tb,hes,hks,ndk,hmem⟩:=zn8 hS;have hsz:es.size=ns.length:=by
   have e1:=IntsAre.length hks;rw[List.length_map,Array.length_toList]at e1;have:=(zbb nd (λx hx=>(hmem x).mpr hx) (by omega)).length_eq;omega
  have hfit:(es.size:Int)<2 ^ 63:=by
   rw[hsz,show(2:Int) ^ 63=9223372036854775808 by decide];omega
  refine call_len_set (s:={ s1 with heap:=h1,toks:=tk }) hso hex hsd hf hfit ?_;refine⟨.int ns.length,H1,?_,⟨_,by rw[hsz]⟩,q⟩;exact I1.kept (s:=s1) λb u e=>hk b u (Heap.lt_size e) e
def zt4(t:DTF):DTE:=λσ Q=>t σ λds=>match ds with
 |[.list xs]=>∃ns:List Int,xs=ns.map PyData.int/\ns.length<=4000/\ns.Nodup/\Q (.int ns.length)
 |_=>False
theorem zi1{k':Nat}{t:DTF}(hr:Room k' X.A)(hgl:Gl X "len")(hml:X.mg "len" = none)(hg:Gl X "set")(hm:X.mg "set" = none)(hc:X.calm=true)(ha:DAv X [a] t)(hs:starEach [a] X.env = [(false,eval a X.env)]:=by rfl)
  (hs2:starEach [.Call (.Name "set" p2) [a] [] pos2] X.env = [(false,eval (.Call (.Name "set" p2) [a] [] pos2) X.env)]:=by rfl) :
  DE X (.Call (.Name "len" p) [.Call (.Name "set" p2) [a] [] pos2] [] pos) (zt4 t) :=
 DE.of (zi0 hgl hml hg hm hc ha.pa hs hs2) λσ H H₀ σD QD ok q=>⟨H₀,σD,_,ok,q,λvs H1 ds s1 r1 q1=>by
  match ds,r1,q1 with
  |[.list ds],r1,q1=>
   cases r1 with
   |cons r t=>
   cases t;obtain⟨b,us,rfl,hb,r⟩:=r.list.sq;obtain⟨ns,rfl,hl,nd,q1⟩:=q1;have e1:=Reps.of_ints r;subst e1;exact⟨b,ns,rfl,hb,hl,nd,_,s1,.int,q1⟩⟩
end
end L2
namespace My
open PySem L2 PyProof.Rows
def top(i:Nat):Stmt:=PySem.Challenge.pw_knockpurse_k70_whole_beat_by_beat_alike.main.body.getD i (.Pass ⟨0,0,0,0⟩)
abbrev j2:Stmt:=top 4
theorem zg1:zy ["thing"] ["thing"] (zp j2):=⟨rfl,rfl,rfl,by decide +kernel,rfl,by decide +kernel,by decide +kernel⟩
abbrev j3:Stmt:=top 5
theorem zg2:zy ["thing", "least", "most"] ["thing", "least", "most"] (zp j3):=⟨rfl,rfl,rfl,by decide +kernel,rfl,by decide +kernel,by decide +kernel⟩
abbrev ke:Stmt:=top 6
theorem zfj:zy ["thing", "bounds"] ["thing", "bounds"] (zp ke):=⟨rfl,rfl,rfl,by decide +kernel,rfl,by decide +kernel,by decide +kernel⟩
abbrev zbf:Stmt:=top 8
theorem sc_growing:zy ["gaps", "many", "first", "times", "more", "most", "row", "further"] ["gaps", "many"] (zp zbf):=⟨rfl,rfl,rfl,by decide +kernel,rfl,by decide +kernel,by decide +kernel⟩
abbrev zcy:Stmt:=top 9
theorem zlw:zy ["gaps", "k"] ["gaps", "k"] (zp zcy):=⟨rfl,rfl,rfl,by decide +kernel,rfl,by decide +kernel,by decide +kernel⟩
abbrev kg:Stmt:=top 12
theorem zfk:zy ["story", "beat"] ["story", "beat"] (zp kg):=⟨rfl,rfl,rfl,by decide +kernel,rfl,by decide +kernel,by decide +kernel⟩
abbrev wb:Stmt:=top 20
theorem sc_standing_good:zy ["gate", "thing", "fails", "rest", "times", "most", "trials"] ["gate", "thing"] (zp wb):=⟨rfl,rfl,rfl,by decide +kernel,rfl,by decide +kernel,by decide +kernel⟩
abbrev zi2:Stmt:=top 21
theorem sc_lets:zy ["gate", "standing", "beat", "word", "until", "now"] ["gate", "standing", "beat"] (zp zi2):=⟨rfl,rfl,rfl,by decide +kernel,rfl,by decide +kernel,by decide +kernel⟩
abbrev zfl:Stmt:=top 22
theorem zof:zy ["gate", "standing", "beat", "answered"] ["gate", "standing", "beat", "answered"] (zp zfl):=⟨rfl,rfl,rfl,by decide +kernel,rfl,by decide +kernel,by decide +kernel⟩
abbrev qi:Stmt:=top 23
theorem sc_heard_open:zy ["gate", "bad", "beat", "answered", "fails", "rest", "times", "most", "trials"] ["gate", "bad", "beat", "answered"] (zp qi):=⟨rfl,rfl,rfl,by decide +kernel,rfl,by decide +kernel,by decide +kernel⟩
abbrev ww:Stmt:=top 24
theorem sc_heard_trying:zy ["gate", "standing", "beat", "answered", "fails", "rest", "times", "most", "trials", "word", "good", "now", "then"] ["gate", "standing", "beat", "answered"] (zp ww):=⟨rfl,rfl,rfl,by decide +kernel,rfl,by decide +kernel,by decide +kernel⟩
abbrev vk:Stmt:=top 28
theorem zcz:zy ["purse", "coins", "many"] ["purse", "coins", "many"] (zp vk):=⟨rfl,rfl,rfl,by decide +kernel,rfl,by decide +kernel,by decide +kernel⟩
abbrev zbg:Stmt:=top 29
theorem zi3:zy ["purse", "coins"] ["purse", "coins"] (zp zbg):=⟨rfl,rfl,rfl,by decide +kernel,rfl,by decide +kernel,by decide +kernel⟩
abbrev j4:Stmt:=top 30
theorem zg3:zy ["purse", "coins", "sign"] ["purse", "coins", "sign"] (zp j4):=⟨rfl,rfl,rfl,by decide +kernel,rfl,by decide +kernel,by decide +kernel⟩
abbrev j5:Stmt:=top 34
theorem sc_first_of:zy ["caller", "plan", "purse", "gate"] ["caller"] (zp j5):=⟨rfl,rfl,rfl,by decide +kernel,rfl,by decide +kernel,by decide +kernel⟩
abbrev zbh:Stmt:=top 35
theorem sc_knocked:zy ["gate", "standing", "beat", "sound", "through", "standing_then"] ["gate", "standing", "beat", "sound"] (zp zbh):=⟨rfl,rfl,rfl,by decide +kernel,rfl,by decide +kernel,by decide +kernel⟩
abbrev zbi:Stmt:=top 36
theorem sc_what_of:zy ["caller", "coins", "beat", "begin", "tries", "gaps", "knocks", "time", "purse", "gate", "due"] ["caller", "coins", "beat", "begin", "tries"] (zp zbi):=⟨rfl,rfl,rfl,by decide +kernel,rfl,by decide +kernel,by decide +kernel⟩
abbrev zfm:Stmt:=top 37
theorem sc_tried:zy ["caller", "standing", "sound", "number", "begin", "tries", "beat", "waiting", "coins", "at_gate", "begun", "word", "what"] ["caller", "standing", "sound", "number", "begin", "tries"] (zp zfm):=⟨rfl,rfl,rfl,by decide +kernel,rfl,by decide +kernel,by decide +kernel⟩
abbrev zfn:Stmt:=top 38
theorem sc_asked:zy ["caller", "standing", "beat", "waiting", "coins", "at_gate", "begun"] ["caller", "standing"] (zp zfn):=⟨rfl,rfl,rfl,by decide +kernel,rfl,by decide +kernel,by decide +kernel⟩
abbrev zbj:Stmt:=top 39
theorem sc_stepped:zy ["caller", "standing", "sound", "many", "beat", "waiting", "coins", "at_gate", "begun", "due", "then", "events", "number", "begin", "tries", "event"] ["caller", "standing", "sound", "many"] (zp zbj):=⟨rfl,rfl,rfl,by decide +kernel,rfl,by decide +kernel,by decide +kernel⟩
abbrev j6:Stmt:=top 40
theorem sc_next_try:zy ["standing", "askings", "beat", "waiting", "coins", "at_gate", "begun"] ["standing", "askings"] (zp j6):=⟨rfl,rfl,rfl,by decide +kernel,rfl,by decide +kernel,by decide +kernel⟩
abbrev kh:Stmt:=top 41
theorem sc_events_of:zy ["caller", "askings", "story", "standing", "told", "beat", "sound", "events"] ["caller", "askings", "story"] (zp kh):=⟨rfl,rfl,rfl,by decide +kernel,rfl,by decide +kernel,by decide +kernel⟩
abbrev zbk:Stmt:=top 42
theorem sc_ends_of:zy ["events", "many", "ends", "beat", "number", "word", "what"] ["events", "many"] (zp zbk):=⟨rfl,rfl,rfl,by decide +kernel,rfl,by decide +kernel,by decide +kernel⟩
abbrev zi4:Stmt:=top 43
theorem sc_gone:zy ["caller", "askings", "story", "events"] ["caller", "askings", "story"] (zp zi4):=⟨rfl,rfl,rfl,by decide +kernel,rfl,by decide +kernel,by decide +kernel⟩
abbrev wx:Stmt:=top 45
theorem zb0:zy ["_law_script", "_law_k"] ["_law_script", "_law_k"] (zp wx):=⟨rfl,rfl,rfl,by decide +kernel,rfl,by decide +kernel,by decide +kernel⟩
abbrev ki:Stmt:=top 46
theorem sc__law_next:zy ["_law_seed"] ["_law_seed"] (zp ki):=⟨rfl,rfl,rfl,by decide +kernel,rfl,by decide +kernel,by decide +kernel⟩
abbrev vm:Stmt:=top 47
theorem sc__law_pen_of:zy ["_law_cell", "_law_left"] ["_law_cell"] (zp vm):=⟨rfl,rfl,rfl,by decide +kernel,rfl,by decide +kernel,by decide +kernel⟩
abbrev kj:Stmt:=top 48
theorem sc__law_draw:zy ["_law_pen", "_law_many", "_law_found"] ["_law_pen", "_law_many"] (zp kj):=⟨rfl,rfl,rfl,by decide +kernel,rfl,by decide +kernel,by decide +kernel⟩
abbrev qj:Stmt:=top 50
theorem sc__law_purse:zy ["_law_pen", "_law_mode", "_law_wide", "_law_deep", "_law_price", "_law_part", "_law_cap"] ["_law_pen"] (zp qj):=⟨rfl,rfl,rfl,by decide +kernel,rfl,by decide +kernel,by decide +kernel⟩
abbrev kl:Stmt:=top 51
theorem sc__law_gate:zy ["_law_pen", "_law_mode", "_law_rest", "_law_fails", "_law_most"] ["_law_pen"] (zp kl):=⟨rfl,rfl,rfl,by decide +kernel,rfl,by decide +kernel,by decide +kernel⟩
abbrev vn:Stmt:=top 52
theorem sc__law_caller:zy ["_law_pen", "_law_mode", "_law_wide", "_law_gaps", "_law_knocks", "_law_time"] ["_law_pen"] (zp vn):=⟨rfl,rfl,rfl,by decide +kernel,rfl,by decide +kernel,by decide +kernel⟩
abbrev wy:Stmt:=top 53
theorem sc__law_askings:zy ["_law_pen", "_law_mode", "_law_beat", "_law_step", "_law_found", "_law_turn"] ["_law_pen"] (zp wy):=⟨rfl,rfl,rfl,by decide +kernel,rfl,by decide +kernel,by decide +kernel⟩
abbrev vo:Stmt:=top 54
theorem sc__law_outage:zy ["_law_pen", "_law_at", "_law_found", "_law_turn", "_law_last"] ["_law_pen", "_law_at"] (zp vo):=⟨rfl,rfl,rfl,by decide +kernel,rfl,by decide +kernel,by decide +kernel⟩
abbrev vr:Stmt:=top 55
theorem sc__law_played:zy ["_law_pen", "_law_caller_here", "_law_askings_here", "_law_at", "_law_story"] ["_law_pen"] (zp vr):=⟨rfl,rfl,rfl,by decide +kernel,rfl,by decide +kernel,by decide +kernel⟩
abbrev vt:Stmt:=top 56
theorem zc0:zy ["_law_story", "_law_beat"] ["_law_story", "_law_beat"] (zp vt):=⟨rfl,rfl,rfl,by decide +kernel,rfl,by decide +kernel,by decide +kernel⟩
abbrev vv:Stmt:=top 57
theorem sc__law_stands:zy ["_law_caller_here", "_law_standing", "_law_beat", "_law_begun", "_law_due", "_law_number", "_law_begin", "_law_tries"] ["_law_caller_here", "_law_standing", "_law_beat", "_law_begun"] (zp vv):=⟨rfl,rfl,rfl,by decide +kernel,rfl,by decide +kernel,by decide +kernel⟩
abbrev zog:Stmt:=top 58
theorem sc_law:zy ["_law_script", "_law_cell", "_law_pen", "_law_caller_here", "_law_askings_here", "_law_story", "_law_events", "_law_ends", "_law_last", "_law_standing", "_law_found", "_law_begun", "_law_beat", "_law_many", "_law_told"] ["_law_script"] (zp zog):=⟨rfl,rfl,rfl,by decide +kernel,rfl,by decide +kernel,by decide +kernel⟩
structure Blt(mg:Str->Option Value):Prop where
 len:mg "len" = none
 range:mg "range" = none
 min:mg "min" = none
 max:mg "max" = none
 isinstance:mg "isinstance" = none
 any:mg "any" = none
 all:mg "all" = none
 zip:mg "zip" = none
 sorted:mg "sorted" = none
 tupleT:mg "tuple" = none
 intT:mg "int" = none
 listT:mg "list" = none
 strT:mg "str" = none
 boolT:mg "bool" = none
 setT:mg "set" = none
def y9(K:PySem.W.Frag)(x:Str)(st:Stmt):Prop:=∃f fd,PySem.W.nsIn K mainGlobals x=some (some (.ref f))/\Fun K x x st f fd
theorem fn_at{K:PySem.W.Frag}{x:Str}{st:Stmt}{f:Addr}{od an:Option Addr}{sl:Array (Option Value)}{oc kV dc pm cd ct:Value}(a:PySem.W.nsIn K mainGlobals x=some (some (.ref f)))(l:K.lookup f=some ⟨oc,od,.func (PySem.W.fnOf x x (qc st) (wf st) (zp st) .none kV dc pm an cd ct),sl⟩)(c:PySem.W.codeIn K cd x=true)(k:PySem.W.keepIn K (.ref f)=true):y9 K x st:=⟨f,_,a,zso l c k⟩
theorem zlx{K:PySem.W.Frag}{x:Str}{st:Stmt}{f:Addr}{fd:FuncData}{s:Shared}{v:Value}{ps:List (Str×Value)}(F:Fun K x x st f fd)(h:∀(kV doc pm:Value) (an:Option Addr) (cdv ct:Value),bindArgs (PySem.W.fnOf x x (qc st) (wf st) (zp st) .none kV doc pm an cdv ct) ⟨[v],[]⟩=pure ps):BindsTo s fd ⟨[v],[]⟩ ps:=by
 obtain⟨oc,od,kV,doc,pm,an,cdv,ct,osl,rfl,lk,hcd⟩:=F.ex;exact .of_eq (h kV doc pm an cdv ct)
abbrev Cal(P:Program)(w:World)(K:PySem.W.Frag)(mg:Str->Option Value)(base:Heap):=zaw P w K mg base
local macro_rules|`(tactic| walk_at "dr")=>`(tactic| dsimp only[↓zt3,↓zt4,↓zn5,↓zn6,↓O.bare,↓O.with,↓zpn,↓zm8,↓zth,↓znb,↓znc,↓zti,↓ztj,↓znd,↓znn,↓znh,↓Ret.w,↓znj,↓znk,↓znl,↓dIf,↓ztk,↓ztg,↓zna,↓zjt,↓zps,↓zic,↓zid,↓zpb,↓zpc,↓dC,↓zjq,↓zpd,↓zmm,↓zmn,↓zpe,↓zst,↓zsu,↓dFz,↓dTB,↓onB,↓dOr,↓zsv,↓zsw,↓zmo,↓zmp,↓zsx,↓dOp,↓zey,↓dUn,↓zsy,↓zsz,↓gII,↓zez,↓zs0,↓zs1,↓zs2,↓zs3,↓gEq,↓gNe,↓zmt,↓isNone,↓dCB,↓dCF,↓zs5,↓zs6,↓zs7,↓zs8,↓zmu,↓zh6,↓gIx,↓zmw,↓ze2,↓dSl,↓ze3,↓zb5,↓ze4,↓zjs,↓ze6,↓ze7,↓zte,↓zh8,↓zm2,↓zh9,↓zm3,↓zng,↓dLC,↓lcF,↓zm4,↓zm6,↓zib,↓Ret.d,↓zcm,↓xv,↓zgf,↓clr,↓zss,↓dIs,↓isD,↓zs9,↓zta,↓znp,↓zio,↓zjv,↓zns,↓zn4,↓zpz,↓zn3,↓zj3,List.map_cons,List.map_nil,List.length_cons,List.length_nil,List.replicate_succ,List.replicate_zero,List.cons_append,List.nil_append,List.append_nil,List.set_cons_zero,List.set_cons_succ,List.getElem?_cons_zero,List.getElem?_cons_succ,Option.join_some,Nat.reduceAdd,Nat.reduceSub,Nat.zero_add,Bool.not_true,Bool.not_false])
local macro_rules|`(tactic| walk_at "ds")=>`(tactic| first|simp only[↓zt3,↓zt4,↓zn5,↓zn6,↓O.bare,↓O.with,↓zpn,↓zm8,↓zth,↓znb,↓znc,↓zti,↓ztj,↓znd,↓znn,↓znh,↓Ret.w,↓znj,↓znk,↓znl,↓dIf,↓ztk,↓ztg,↓zna,↓zjt,↓zps,↓zic,↓zid,↓zpb,↓zpc,↓dC,↓zjq,↓zpd,↓zmm,↓zmn,↓zpe,↓zst,↓zsu,↓dFz,↓dTB,↓onB,↓dOr,↓zsv,↓zsw,↓zmo,↓zmp,↓zsx,↓dOp,↓zey,↓dUn,↓zsy,↓zsz,↓gII,↓zez,↓zs0,↓zs1,↓zs2,↓zs3,↓gEq,↓gNe,↓zmt,↓isNone,↓dCB,↓dCF,↓zs5,↓zs6,↓zs7,↓zs8,↓zmu,↓zh6,↓gIx,↓zmw,↓ze2,↓dSl,↓ze3,↓zb5,↓ze4,↓zjs,↓ze6,↓ze7,↓zte,↓zh8,↓zm2,↓zh9,↓zm3,↓zng,↓dLC,↓lcF,↓zm4,↓zm6,↓zib,↓Ret.d,↓zcm,↓xv,↓zgf,↓clr,↓zss,↓dIs,↓isD,↓zs9,↓zta,↓znp,↓zio,↓zjv,↓zns,↓zn4,↓zpz,↓zn3,↓zj3,List.map_cons,List.map_nil,List.length_cons,List.length_nil,List.replicate_succ,List.replicate_zero,List.cons_append,List.nil_append,List.append_nil,List.set_cons_zero,List.set_cons_succ,List.getElem?_cons_zero,List.getElem?_cons_succ,Option.join_some,Nat.reduceAdd,Nat.reduceSub,Nat.zero_add,Bool.not_true,Bool.not_false,if_true,if_false,reduceIte,decide_eq_true_eq,Bool.not_eq_true',decide_eq_false_iff_not,true_and,and_true,Bool.false_eq_true,Bool.not_eq_eq_eq_not,eq_self,and_self,List.isEmpty_nil,List.isEmpty_cons,reduceCtorEq,sizeLine_eq,Nat.reduceLeDiff,Nat.zero_le]|skip)
section
variable {P:Program}{w:World}{K:PySem.W.Frag}{mg:Str->Option Value}{base:Heap}{f:Addr}{fd:FuncData}
def qu:DSp:=λws Q=>∃(ns:List Int) (k:Int),ws = [.scr ns,.val (.int k)]/\0<=k/\∀v:Int,Q (.val (.int v))
theorem zb1(B:Blt mg)(F:Fun K "_law_cell_at" "_law_cell_at" wx f fd):FnOk P w K mg base CX0 1 f fd ["_law_script", "_law_k"] (ya K qu):=by
 refine F.dok zb0 (λws Q h=>?_) (λcdv A outer s H ws Q E hr h=>?_)
 ·obtain⟨ns,k,rfl,_⟩:=h;rfl
 obtain⟨ns,k,rfl,h0,q⟩:=h;refine⟨_,(zd (yw (yk ze0 (zb 1) (DE.dv (zlf 0 rfl B.len)) (yg _)) (zj (zr (zmx 0 (zi 1) (λ_ _=>rfl)))) ye) (zj (zr zc))),?_⟩;walk_at "ds"
 split
 ·next c=>
  obtain⟨v,e,_⟩:=zml (xs:=ns) h0 c;exact⟨v,e,q v⟩
 ·exact q 0
def qk:DSp:=λws Q=>∃k:Int,ws = [.val (.int k)]/\∀v:Int,Q (.val (.int v))
theorem zfo(B:Blt mg)(F:Fun K "_law_next" "_law_next" ki f fd):FnOk P w K mg base CX0 1 f fd ["_law_seed"] (ya K qk):=by
 refine F.dok sc__law_next (λws Q h=>?_) (λcdv A outer s H ws Q E hr h=>?_)
 ·obtain⟨k,rfl,_⟩:=h;rfl
 obtain⟨k,rfl,q⟩:=h;refine⟨_,(zd (yo (i:=0) sc__law_next.nd rfl (Or.inl rfl) (z0 zms (DE.dv (z0 yj (zb 0) (DE.dv zc))) (DE.dv zc))) (zj (zr (z0 zms (DE.dv (z0 yj (DE.dv (z0 yj (DE.dv (z0 zgc (zb 0) (zb 0))) (DE.dv (z0 zgc (DE.dv zc) (zb 0))))) (DE.dv zc))) (DE.dv zc))))),?_⟩;walk_at "ds";have h1:0<=(k+7919) % 2147483647:=Int.emod_nonneg _ (by decide);have h2:(k+7919) % 2147483647<2147483647:=Int.emod_lt_of_pos _ (by decide);exact⟨by decide,.inl ⟨by omega,by omega⟩,.inl ⟨by omega,by omega⟩,by decide,q _⟩
def km:DSp:=λws Q=>∃k:Int,ws = [.val (.int k)]/\∀a b c:Int,Q (.new [.int a,.int b,.int c])
theorem zc1(B:Blt mg)(F:Fun K "_law_pen_of" "_law_pen_of" vm f fd):FnOk P w K mg base CX0 1 f fd ["_law_cell"] (ya K km):=by
 refine F.dok sc__law_pen_of (λws Q h=>?_) (λcdv A outer s H ws Q E hr h=>?_)
 ·obtain⟨k,rfl,_⟩:=h;rfl
 obtain⟨k,rfl,q⟩:=h;refine⟨_,(zd (yo (i:=1) sc__law_pen_of.nd rfl (Or.inl rfl) (yt (zrc rfl) rfl B.max boot_max (zt (zb 0) (zt (DE.dv (z0 zd2 (DE.dv zc) (zb 0))) z9)))) (zj (zpo (yz (za (zi 1) (za (xj zvs rfl B.intT boot_int (zt (DE.dv (zh2 zvp (zb 1) (DE.dv (z0 zvn (DE.dv zc) (DE.dv zc))) (yg _))) z9)) (za (z0 zms (zb 1) (DE.dv zc)) zn))))))),?_⟩;walk_at "ds";exact⟨⟨by decide,by decide,by decide⟩,by decide,q _ _ _⟩
def zoh:Sp:=λvs H Q _=>∃k:Int,vs = [.int k]/\∀(v:Int) H',Same H H'->Q (.int v) H'
theorem zt5{k:Nat}{x:Str}{ps:List Str}(C:Cal P w K mg base k x ps (ya K qk)):Cal P w K mg base k x ps zoh:=by
 obtain⟨f,fd,F,r⟩:=C;refine⟨f,fd,F.imp λvs H Q E h=>?_,r⟩;obtain⟨k,rfl,q⟩:=h;exact⟨[.val (.int k)],λr=>∃i:Int,r=.val (.int i),.cons (show Rep K H (.int k) _ from .int) .nil,⟨k,rfl,λv=>⟨v,rfl⟩⟩,λv H' r sm rp ⟨i,e⟩=>by subst e;cases (show Rep K H' (.int i) v from rp);exact q i H' sm⟩
theorem zfp(B:Blt mg)(F:Fun K "_law_draw" "_law_draw" kj f fd)(Cd:Cal P w K mg base 1 "_law_next" ["_law_seed"] (ya K qk)):FnOk P w K mg base CX0 2 f fd ["_law_pen", "_law_many"] (ya K yx):=by
 have C__law_next:=zt5 Cd;refine ztl (F.ok sc__law_draw (λvs H Q E h=>?_) (λcdv A outer s H vs Q E hr h=>?_))
 ·obtain⟨p,m,rfl,_⟩:=h;rfl
 obtain⟨p,m,rfl,hm,hM,⟨a,b,c,hp⟩,q⟩:=h;refine⟨_,(h8 (zuq (zvl (zrv (zjk zqz (zbp ix_list (pv 0) xu (λ_ _=>rfl)) xu (yg _)) (zoy (zjk zq3 (zbp ix_list (pv 0) xu (λ_ _=>rfl)) xu (yg _))))) (h8 (zca (i:=2) sc__law_draw.nd rfl (Or.inl rfl) (zf3 zhp (zbp ix_list (pv 0) xu (λ_ _=>rfl)) (pv 1))) (h8 (zhm (zf3 zga (zbp ix_list (pv 0) xu (λ_ _=>rfl)) (pv 1)) (zl5 (pv 0) xu zf7)) (zjf (zb9 (pv 2))))) zoz) (h8 (zhm (zcf C__law_next hr rfl (xh (zf3 zl8 (zcf C__law_next hr rfl (xh (zbp ix_list (pv 0) xu (λ_ _=>rfl)) wm)) xu) wm)) (zl5 (pv 0) xu zf7)) (zjf (zb9 (zf3 zhp (zf3 zga (zbp ix_list (pv 0) xu (λ_ _=>rfl)) xu) (pv 1)))))),?_⟩;have hS:SqL K H p [.int a,.int b,.int c]:=SqL.of hp;refine⟨_,rfl,p,_,_,_,rfl,rfl,hS,rfl,rfl,_,rfl,?_⟩;refine zvd (λc1=>?_) (λc1=>?_)
 ·refine⟨_,rfl,p,_,_,_,rfl,rfl,hS,rfl,_,_,rfl,rfl,_,rfl,?_⟩;refine zvd (λc2=>?_) (λc2=>?_)
  ·refine⟨_,rfl,p,_,_,_,rfl,rfl,hS,rfl,_,rfl,_,_,rfl,rfl,hm,?_⟩;refine⟨_,rfl,p,_,_,_,rfl,rfl,hS,rfl,_,rfl,_,_,rfl,rfl,⟨hm,hM⟩,?_⟩;refine⟨_,rfl,p,_,_,_,rfl,rfl,hp,rfl,?_⟩;exact⟨_,rfl,q _ _ (Int.emod_nonneg _ (by omega)) (Int.emod_lt_of_pos _ hm) ⟨a / m,b,c,zx⟩ But.write⟩
  ·refine⟨_,rfl,p,_,_,_,rfl,rfl,hS,rfl,_,rfl,λv1 H1 s1=>⟨_,_,rfl,rfl,_,rfl,λv2 H2 s2=>⟨_,rfl,p,_,_,_,rfl,rfl,s2 _ _ (s1 _ _ hp),rfl,?_⟩⟩⟩;refine⟨_,rfl,p,_,_,_,rfl,rfl,SqL.of zx,rfl,_,_,rfl,rfl,⟨by decide,by decide⟩,_,rfl,_,_,rfl,rfl,hm,?_⟩;exact q _ _ (Int.emod_nonneg _ (by omega)) (Int.emod_lt_of_pos _ hm) ⟨a,b,v2,zx⟩ ((But.of_same (s1.trans s2)).trans But.write)
 ·refine zxb ?_;refine⟨_,rfl,p,_,_,_,rfl,rfl,hS,rfl,_,rfl,λv1 H1 s1=>⟨_,_,rfl,rfl,_,rfl,λv2 H2 s2=>⟨_,rfl,p,_,_,_,rfl,rfl,s2 _ _ (s1 _ _ hp),rfl,?_⟩⟩⟩;refine⟨_,rfl,p,_,_,_,rfl,rfl,SqL.of zx,rfl,_,_,rfl,rfl,⟨by decide,by decide⟩,_,rfl,_,_,rfl,rfl,hm,?_⟩;exact q _ _ (Int.emod_nonneg _ (by omega)) (Int.emod_lt_of_pos _ hm) ⟨a,b,v2,zx⟩ ((But.of_same (s1.trans s2)).trans But.write)
def zfq:DSp:=λws Q=>∃ns:List Int,ws = [.scr ns]/\ns.length<=63/\Q (.val (.bool true))
structure Gp where
 f:Int
 t:Int
 m:Int
 k:Int
def Gp.D(g:Gp):D:=.tuple [.int g.f,.int g.t,.int g.m,.int g.k]
structure Gp.Ok(g:Gp):Prop where
 f1:1<=g.f
 f2:g.f<=1000
 t1:1<=g.t
 t2:g.t<=10
 m1:0<=g.m
 m2:g.m<=1000
 k1:1<=g.k
 k2:g.k<=1000
def gp(g:Gp):Nat->Int
 |0=>min g.f g.k
 |n+1=>min (g.t * gp g n+g.m) g.k
def gpL(g:Gp)(n:Nat):List Int:=(List.range n).map (gp g)
theorem zc2(g:Gp)(n:Nat):gpL g (n+1)=gpL g n ++ [gp g n]:=by simp[gpL,List.range_succ]
theorem zql(g:Gp)(n:Nat):(gpL g n).length=n:=by simp[gpL]
theorem zkh(g:Gp){j:Nat}(h:gp g (j+1)=gp g j):∀i,gp g (j+i)=gp g j
 |0=>rfl
 |i+1=>by
  have e:gp g (j+(i+1))=min (g.t * gp g (j+i)+g.m) g.k:=rfl;rw[e,zkh g h i];exact h
theorem zki{g:Gp}(o:g.Ok):∀n,1<=gp g n/\gp g n<=1000
 |0=>by
  have:=o.f1;have:=o.f2;have:=o.k1;have:=o.k2;simp only[gp];omega
 |n+1=>by
  have ih:=zki o n;have:=o.t1;have:=o.t2;have:=o.m1;have:=o.k1;have:=o.k2;have h1:1 * 1<=g.t * gp g n:=Int.mul_le_mul o.t1 ih.1 (by decide) (by omega);simp only[gp];omega
theorem atI_end{α:Type}(xs:List α)(x:α):atI (xs ++ [x]) (-1)=some x:=zf6 xs x
theorem j7{a b:Int}(h1:0<=a)(h2:a<=1000000000)(h3:0<=b)(h4:b<=1000000000):CMul a b:=.inl ⟨by omega,by omega⟩
def zc3:DSp:=λws Q=>∃(g:Gp) (n:Int),ws = [.val g.D,.val (.int n)]/\g.Ok/\n<=10000/\∀j:Nat,1<=j->(j:Int)<=max n 1->(∀i:Nat,j-1<=i->(i:Int)<n->gp g i=gp g (j-1))->Q (.new ((gpL g j).map PyData.int))
theorem zi5(B:Blt mg)(F:Fun K "growing" "growing" zbf f fd):FnOk P w K mg base CX0 1 f fd ["gaps", "many"] (ya K zc3):=by
 refine F.dok sc_growing (λws Q h=>?_) (λcdv A outer s H ws Q E hr h=>?_)
 ·obtain⟨g,n,rfl,_⟩:=h;rfl
 obtain⟨g,n,rfl,o,hn,q⟩:=h;simp only[Gp.D];refine⟨_,(zd (y3 (zi 0) (yq (n:=4) rfl (ze (zg (i:=2) sc_growing.nd rfl (Or.inl rfl)) (ze (zg (i:=3) sc_growing.nd rfl (Or.inl rfl)) (ze (zg (i:=4) sc_growing.nd rfl (Or.inl rfl)) (ze (zg (i:=5) sc_growing.nd rfl (Or.inl rfl)) yh)))))) (zd (zac (i:=6) sc_growing.nd rfl (Or.inl rfl) (yz (za (yt (zge rfl) rfl B.min boot_min (zt (zb 2) (zt (zb 5) z9))) zn))) (zd (zgi PassesOwn.never (yk ze0 (DE.dv (yt zab rfl B.len PySem.boot_len (zt (zb 6) z9))) (zb 1) (yg _)) (zd (yo (i:=7) sc_growing.nd rfl (Or.inl rfl) (yt (zge rfl) rfl B.min boot_min (zt (DE.dv (z0 yj (DE.dv (z0 zgc (zb 3) (DE.dv (yd (zb 6) (zh3 zc) (λ_ _=>rfl))))) (zb 4))) (zt (zb 5) z9)))) (zd (yw (yk (qz hr) (zb 7) (DE.dv (yd (zb 6) (zh3 zc) (λ_ _=>rfl))) (yg _)) (zj zm9) ye) (zj (vx 6 (zi 7)))))) (zj (zpp 6))))),?_⟩;walk_at "ds";refine zd5 (λm σ=>∃(j:Nat) (u:Option W),σ = [some (.val g.D),some (.val (.int n)),some (.val (.int g.f)),some (.val (.int g.t)),some (.val (.int g.m)),some (.val (.int g.k)),some (.own (.lst ((gpL g (j+1)).map PyData.int))),u]/\((j+1:Nat):Int)<=max n 1/\m=n.toNat-j) _ ⟨0,none,rfl,by omega,rfl⟩ ?_;rintro m σ N ⟨j,u,rfl,hj,rfl⟩ k;walk_at "ds";rw[List.length_map,zql];have el:atI ((gpL g (j+1)).map PyData.int) (-1)=some (.int (gp g j)):=by rw[zc2,List.map_append];exact atI_end _ _
 have bd:=zki o j;have:=o.t1;have:=o.t2
 by_cases c:((j+1:Nat):Int)<n
 ·rw[if_pos c];refine⟨_,el,j7 (by omega) (by omega) (by omega) (by omega),_,el,?_⟩;have e1:min (g.t * gp g j+g.m) g.k=gp g (j+1):=rfl;rw[e1];walk_at "ds"
  by_cases c2:gp g (j+1)=gp g j
  ·rw[if_pos c2];refine q (j+1) (by omega) hj λi h1 h2=>?_;have:=zkh g c2 (i-j);rw[show j+(i-j)=i by omega]at this;exact this
  ·rw[if_neg c2];refine⟨by omega,k (n.toNat-(j+1)) _ (by omega) ⟨j+1,_,(by rw[zc2 g (j+1),List.map_append];rfl),by omega,rfl⟩⟩
 ·rw[if_neg c];exact q (j+1) (by omega) hj λi h1 h2=>by rw[show i=j+1-1 by omega]
theorem sliceD_take0(xs:List D){n:Int}(h:0<=n):y0 xs none (some n)=xs.take n.toNat:=by
 have:=zbq xs n.toNat;rw[Int.toNat_of_nonneg h]at this;exact this
end
section
variable {P:Program}{w:World}{K:PySem.W.Frag}{mg:Str->Option Value}{base:Heap}{f:Addr}{fd:FuncData}
structure Pl where
 g:Gp
 n:Int
 t:Int
def Pl.D(p:Pl):D:=.tuple [p.g.D,.int p.n,.int p.t]
structure Pl.Ok(p:Pl):Prop where
 g:p.g.Ok
 n1:1<=p.n
 n2:p.n<=200
 t1:0<=p.t
 t2:p.t<=400000
def w6(s:List (Int×Int))(b:Int):Bool:=s.any λr=>decide (r.1<=b/\b<r.2)
def pD(r:Int×Int):D:=.tuple [.int r.1,.int r.2]
def zan:DSp:=λws Q=>∃(s:List (Int×Int)) (b:Int),ws = [.val (.tuple (s.map pD)),.val (.int b)]/\s.length<=10000/\Q (.val (.bool (w6 s b)))
theorem zfr(B:Blt mg)(F:Fun K "silent_at" "silent_at" kg f fd):FnOk P w K mg base CX0 1 f fd ["story", "beat"] (ya K zan):=by
 refine F.dok zfk (λws Q h=>?_) (λcdv A outer s H ws Q E hr h=>?_)
 ·obtain⟨s,b,rfl,_⟩:=h;rfl
 obtain⟨s,b,rfl,hl,q⟩:=h;refine⟨_,(zj (zr (yt (zrd rfl) rfl B.any boot_any (zt (DE.dv (DF.de (ql rfl (N':=["first", "last", "beat"]) (capt:=["beat"]) (k:=2) (js:=[1]) ⟨rfl,by decide,rfl,by decide,(.cons rfl .nil),rfl,(.cons rfl (Or.inl rfl) rfl (Or.inl rfl) .nil),rfl,by decide⟩ (xx (zb 0)) (λ_ _ _ _=>(yq (n:=2) rfl (ze (zg (i:=0) (show List.Nodup (["first", "last", "beat"]:List Str) by decide +kernel) rfl (Or.inl rfl) (Or.inr rfl)) (ze (zg (i:=1) (show List.Nodup (["first", "last", "beat"]:List Str) by decide +kernel) rfl (Or.inl rfl) (Or.inr rfl)) yh)))) (λ_ _ _ _=>wg) (λ_ _ _ _=>(zcj zck ze0 (zb 0) (zb 2) (zb 1)))))) z9)))),?_⟩;walk_at "ds";rw[List.length_map];refine⟨by omega,xq pD (λr=>.bool (decide (r.1<=b/\b<r.2))) (λr hr k hk=>?_) ⟨s.map λr=>decide (r.1<=b/\b<r.2),?_,?_⟩⟩
 ·simp only[pD];walk_at "ds"
  split
  ·next c=>simpa[c]using hk
  ·next c=>simpa[c]using hk
 ·have:=jx (s.map λr=>decide (r.1<=b/\b<r.2));rw[List.map_map]at this;exact this
 ·rw[List.any_map];exact q
def knL(lim:Int):List Int->Int->List Int
 |[],_=>[]
 |x::xs,b=>if lim<b+x then [] else (b+x)::knL lim xs (b+x)
def kn(p:Pl)(b:Int):List Int:=b::knL (b+p.t) (gpL p.g (p.n.toNat-1)) b
def zel:DSp:=λws Q=>∃(g:Gp) (n:Int),ws = [.val g.D,.val (.int n)]/\g.Ok/\1<=n/\n<=10000/\Q (.val (.int (gp g (n.toNat-1))))
theorem zly(B:Blt mg)(F:Fun K "gap_at" "gap_at" zcy f fd)(C_growing:Cal P w K mg base 1 "growing" ["gaps", "many"] (ya K zc3)):FnOk P w K mg base CX0 2 f fd ["gaps", "k"] (ya K zel):=by
 refine F.dok zlw (λws Q h=>?_) (λcdv A outer s H ws Q E hr h=>?_)
 ·obtain⟨g,n,rfl,_⟩:=h;rfl
 obtain⟨g,n,rfl,o,h0,hn,q⟩:=h;refine⟨_,(zj (zr (yd (DE.dv (zh C_growing hr rfl (zm 0 (zm 1 zo)))) (zh3 zc) (λ_ _=>rfl)))),?_⟩;walk_at "ds";refine⟨g,n,rfl,o,hn,λj h1 h2 h3=>?_⟩;walk_at "ds";have el:atI ((gpL g j).map PyData.int) (-1)=some (.int (gp g (j-1))):=by
  obtain⟨i,rfl⟩:∃i,j=i+1:=⟨j-1,by omega⟩
  rw[zc2,List.map_append];exact atI_end _ _
 refine⟨_,el,?_⟩;rw[<-h3 (n.toNat-1) (by omega) (by omega)];exact q
structure Gt where
 f:Int
 r:Int
 t:Int
 m:Int
 n:Int
def Gt.D(g:Gt):D:=.tuple [.int g.f,.int g.r,.int g.t,.int g.m,.int g.n]
structure Gt.Ok(g:Gt):Prop where
 f1:1<=g.f
 f2:g.f<=20
 r1:1<=g.r
 t1:1<=g.t
 t2:g.t<=10
 m1:g.r<=g.m
 m2:g.m<=1000
 n1:1<=g.n
 n2:g.n<=10
inductive Sg where
 |op (k:Int)|sh (u w:Int)|tr (k w:Int)
def Sg.D:Sg->D
 |.op k=>.tuple [.str "open",.int k]
 |.sh u w=>.tuple [.str "shut",.int u,.int w]
 |.tr k w=>.tuple [.str "trying",.int k,.int w]
def Sg.Ok(g:Gt):Sg->Prop
 |.op k=>0<=k/\k<g.f
 |.sh u w=>0<=u/\u<=2000000/\1<=w/\w<=g.m
 |.tr k w=>0<=k/\k<g.n/\1<=w/\w<=g.m
def zb2:Sg->Int->Bool×Sg
 |.sh u w,b=>if b<u then (false,.sh u w) else (true,.tr 0 w)
 |s,_=>(true,s)
def heL(g:Gt):Sg->Int->Bool->Sg
 |.op k,b,a=>if a=true then .op 0 else if k+1=g.f then .sh (b+g.r) g.r else .op (k+1)
 |.tr k w,b,a=>if a=true then (if k+1=g.n then .op 0 else .tr (k+1) w) else .sh (b+min (g.t * w) g.m) (min (g.t * w) g.m)
 |.sh u w,_,_=>.sh u w
def Sg.shut:Sg->Bool
 |.sh _ _=>true
 |_=>false
theorem zrl:¬ ((Str.ofString "open")=(Str.ofString "shut")):=by decide +kernel
theorem zoi:¬ ((Str.ofString "trying")=(Str.ofString "shut")):=by decide +kernel
theorem zrm:¬ ((Str.ofString "trying")=(Str.ofString "open")):=by decide +kernel
theorem zwc:¬ ((Str.ofString "shut")=(Str.ofString "open")):=by decide +kernel
def ltD(x:Bool×Sg):D:=.tuple [.bool x.1,x.2.D]
theorem zoj{g:Gt}(o:g.Ok):∀{s:Sg}{b:Int},s.Ok g->(zb2 s b).2.Ok g/\((zb2 s b).1=true->(zb2 s b).2.shut=false)
 |.op k,b,h=>⟨h,λ_=>rfl⟩
 |.tr k w,b,h=>⟨h,λ_=>rfl⟩
 |.sh u w,b,h=>by
  have:=o.n1;simp only[zb2]
  split
  ·exact⟨h,λz=>by cases z⟩
  ·exact⟨⟨Int.le_refl _,by omega,h.2.2.1,h.2.2.2⟩,λ_=>rfl⟩
theorem zwd{g:Gt}(o:g.Ok){b:Int}(hb:0<=b/\b<=1900000){a:Bool}:∀{s:Sg},s.Ok g->(heL g s b a).Ok g
 |.op k,h=>by
  have:=o.f1;have:=o.r1;have:=o.m1;have:=o.m2;simp only[Sg.Ok]at h;simp only[heL]
  split
  ·exact⟨Int.le_refl _,by omega⟩
  ·split
   ·exact⟨by omega,by omega,by omega,by omega⟩
   ·exact⟨by omega,by omega⟩
 |.tr k w,h=>by
  have:=o.f1;have:=o.m2;have:=o.r1;have:=o.m1;simp only[Sg.Ok]at h;have h1:1 * 1<=g.t * w:=Int.mul_le_mul o.t1 h.2.2.1 (by decide) (by have:=o.t1;omega);simp only[heL]
  split
  ·split
   ·exact⟨Int.le_refl _,by omega⟩
   ·exact⟨by omega,by omega,h.2.2.1,h.2.2.2⟩
  ·exact⟨by omega,by omega,by omega,by omega⟩
 |.sh u w,h=>h
def zkj:DSp:=λws Q=>∃(d:D) (s:Sg) (b:Int),ws = [.val d,.val s.D,.val (.int b)]/\Q (.val (ltD (zb2 s b)))
theorem zqm(B:Blt mg)(F:Fun K "lets" "lets" zi2 f fd){t_SHUT:Tok}(G_SHUT:mg "SHUT" = some (.str "shut" t_SHUT)){t_TRYING:Tok}(G_TRYING:mg "TRYING" = some (.str "trying" t_TRYING)):FnOk P w K mg base CX0 1 f fd ["gate", "standing", "beat"] (ya K zkj):=by
 refine F.dok sc_lets (λws Q h=>?_) (λcdv A outer s H ws Q E hr h=>?_)
 ·obtain⟨d,s,b,rfl,_⟩:=h;rfl
 obtain⟨d,s,b,rfl,q⟩:=h
 cases s with
 |op k=>
  simp only[Sg.D];refine⟨_,(zd (yw (yk (zcl hr) (DE.dv (yd (zb 1) zc (λ_ _=>rfl))) (DE.dv (yi (d:=.str "shut") (v:=.str "shut") rfl G_SHUT ⟨_,rfl⟩ (λ_=>.str))) (yg _)) (zj (zr (zw (za xl (za (zi 1) zn) yf)))) ye) (zd (y3 (zi 1) (yq (n:=3) rfl (ze (zg (i:=3) sc_lets.nd rfl (Or.inl rfl)) (ze (zg (i:=4) sc_lets.nd rfl (Or.inl rfl)) (ze (zg (i:=5) sc_lets.nd rfl (Or.inl rfl)) yh))))) (zd (yw (yk ze0 (zb 2) (zb 4) (yg _)) (zj (zr (zw (za xl (za (zi 1) zn) yf)))) ye) (zj (zr (zw (za xl (za (zw (za (yi (d:=.str "trying") (v:=.str "trying") rfl G_TRYING ⟨_,rfl⟩ (λ_=>.str)) (za zc (za (zi 5) zn) yf))) zn vi) yf))))))),?_⟩;walk_at "ds";refine⟨_,yr _ _,?_⟩;walk_at "ds";rw[if_pos zrl];exact q
 |tr k w=>
  simp only[Sg.D];refine⟨_,(zd (yw (yk (zcl hr) (DE.dv (yd (zb 1) zc (λ_ _=>rfl))) (DE.dv (yi (d:=.str "shut") (v:=.str "shut") rfl G_SHUT ⟨_,rfl⟩ (λ_=>.str))) (yg _)) (zj (zr (zw (za xl (za (zi 1) zn) yf)))) ye) (zd (y3 (zi 1) (yq (n:=3) rfl (ze (zg (i:=3) sc_lets.nd rfl (Or.inl rfl)) (ze (zg (i:=4) sc_lets.nd rfl (Or.inl rfl)) (ze (zg (i:=5) sc_lets.nd rfl (Or.inl rfl)) yh))))) (zd (yw (yk ze0 (zb 2) (zb 4) (yg _)) (zj (zr (zw (za xl (za (zi 1) zn) yf)))) ye) (zj (zr (zw (za xl (za (zw (za (yi (d:=.str "trying") (v:=.str "trying") rfl G_TRYING ⟨_,rfl⟩ (λ_=>.str)) (za zc (za (zi 5) zn) yf))) zn vi) yf))))))),?_⟩;walk_at "ds";refine⟨_,yr _ _,?_⟩;walk_at "ds";rw[if_pos zoi];exact q
 |sh u w=>
  simp only[Sg.D];refine⟨_,(zd (yw (yk (zcl hr) (DE.dv (yd (zb 1) zc (λ_ _=>rfl))) (DE.dv (yi (d:=.str "shut") (v:=.str "shut") rfl G_SHUT ⟨_,rfl⟩ (λ_=>.str))) (yg _)) (zj (zr (zw (za xl (za (zi 1) zn) yf)))) ye) (zd (y3 (zi 1) (yq (n:=3) rfl (ze (zg (i:=3) sc_lets.nd rfl (Or.inl rfl)) (ze (zg (i:=4) sc_lets.nd rfl (Or.inl rfl)) (ze (zg (i:=5) sc_lets.nd rfl (Or.inl rfl)) yh))))) (zd (yw (yk ze0 (zb 2) (zb 4) (yg _)) (zj (zr (zw (za xl (za (zi 1) zn) yf)))) ye) (zj (zr (zw (za xl (za (zw (za (yi (d:=.str "trying") (v:=.str "trying") rfl G_TRYING ⟨_,rfl⟩ (λ_=>.str)) (za zc (za (zi 5) zn) yf))) zn vi) yf))))))),?_⟩;walk_at "ds";refine⟨_,yr _ _,?_⟩;walk_at "ds";rw[if_neg (λz=>z trivial)];simp only[zb2]at q
  split
  ·next c=>rw[if_pos c]at q;exact q
  ·next c=>rw[if_neg c]at q;exact q
def jt:DSp:=λws Q=>∃(g:Gt) (k b:Int) (a:Bool),ws = [.val g.D,.val (.int k),.val (.int b),.val (.bool a)]/\Q (.val (heL g (.op k) b a).D)
theorem zdm(B:Blt mg)(F:Fun K "heard_open" "heard_open" qi f fd){ga_FIRST_STANDING:Addr}(G_FIRST_STANDING:mg "FIRST_STANDING" = some (.ref ga_FIRST_STANDING))(N_FIRST_STANDING:∀H,Rep K H (.tuple [(.str "open"),(.int 0)]) (.ref ga_FIRST_STANDING)){t_OPEN:Tok}(G_OPEN:mg "OPEN" = some (.str "open" t_OPEN)){t_SHUT:Tok}(G_SHUT:mg "SHUT" = some (.str "shut" t_SHUT)):FnOk P w K mg base CX0 1 f fd ["gate", "bad", "beat", "answered"] (ya K jt):=by
 refine F.dok sc_heard_open (λws Q h=>?_) (λcdv A outer s H ws Q E hr h=>?_)
 ·obtain⟨g,k,b,a,rfl,_⟩:=h;rfl
 obtain⟨g,k,b,a,rfl,q⟩:=h;simp only[Gt.D];refine⟨_,(zd (y3 (zi 0) (yq (n:=5) rfl (ze (zg (i:=4) sc_heard_open.nd rfl (Or.inl rfl)) (ze (zg (i:=5) sc_heard_open.nd rfl (Or.inl rfl)) (ze (zg (i:=6) sc_heard_open.nd rfl (Or.inl rfl)) (ze (zg (i:=7) sc_heard_open.nd rfl (Or.inl rfl)) (ze (zg (i:=8) sc_heard_open.nd rfl (Or.inl rfl)) yh))))))) (zd (yw (wo (zb 3)) (zj (zr (yi (v:=.ref _) rfl G_FIRST_STANDING rfl N_FIRST_STANDING))) ye) (zd (yw (yk (qz hr) (DE.dv (z0 yj (zb 1) (DE.dv zc))) (zb 4) (yg _)) (zj (zr (zw (za (yi (d:=.str "shut") (v:=.str "shut") rfl G_SHUT ⟨_,rfl⟩ (λ_=>.str)) (za (z0 yj (zb 2) (zb 5)) (za (zi 5) zn)))))) ye) (zj (zr (zw (za (yi (d:=.str "open") (v:=.str "open") rfl G_OPEN ⟨_,rfl⟩ (λ_=>.str)) (za (z0 yj (zb 1) (DE.dv zc)) zn)))))))),?_⟩;walk_at "ds";simp only[heL]at q
 cases a with
 |true=>exact q
 |false=>
  walk_at "ds";rw[if_neg (by decide)]at q
  split
  ·next c=>rw[if_pos c]at q;exact q
  ·next c=>rw[if_neg c]at q;exact q
def qv:DSp:=λws Q=>∃(g:Gt) (k w b:Int) (a:Bool),ws = [.val g.D,.val (Sg.tr k w).D,.val (.int b),.val (.bool a)]/\g.Ok/\0<=w/\w<=1000/\Q (.val (heL g (.tr k w) b a).D)
theorem zb3(B:Blt mg)(F:Fun K "heard_trying" "heard_trying" ww f fd){ga_FIRST_STANDING:Addr}(G_FIRST_STANDING:mg "FIRST_STANDING" = some (.ref ga_FIRST_STANDING))(N_FIRST_STANDING:∀H,Rep K H (.tuple [(.str "open"),(.int 0)]) (.ref ga_FIRST_STANDING)){t_TRYING:Tok}(G_TRYING:mg "TRYING" = some (.str "trying" t_TRYING)){t_SHUT:Tok}(G_SHUT:mg "SHUT" = some (.str "shut" t_SHUT)):FnOk P w K mg base CX0 1 f fd ["gate", "standing", "beat", "answered"] (ya K qv):=by
 refine F.dok sc_heard_trying (λws Q h=>?_) (λcdv A outer s H ws Q E hr h=>?_)
 ·obtain⟨g,k,w,b,a,rfl,_⟩:=h;rfl
 obtain⟨g,k,w,b,a,rfl,o,h1,h2,q⟩:=h;have:=o.t1;have:=o.t2;simp only[Gt.D,Sg.D];refine⟨_,(zd (y3 (zi 0) (yq (n:=5) rfl (ze (zg (i:=4) sc_heard_trying.nd rfl (Or.inl rfl)) (ze (zg (i:=5) sc_heard_trying.nd rfl (Or.inl rfl)) (ze (zg (i:=6) sc_heard_trying.nd rfl (Or.inl rfl)) (ze (zg (i:=7) sc_heard_trying.nd rfl (Or.inl rfl)) (ze (zg (i:=8) sc_heard_trying.nd rfl (Or.inl rfl)) yh))))))) (zd (y3 (zi 1) (yq (n:=3) rfl (ze (zg (i:=9) sc_heard_trying.nd rfl (Or.inl rfl)) (ze (zg (i:=10) sc_heard_trying.nd rfl (Or.inl rfl)) (ze (zg (i:=11) sc_heard_trying.nd rfl (Or.inl rfl)) yh))))) (zd (yw (x8 (wo (zb 3))) (zd (yo (i:=12) sc_heard_trying.nd rfl (Or.inl rfl) (yt (zge rfl) rfl B.min boot_min (zt (DE.dv (z0 zgc (zb 6) (zb 11))) (zt (zb 7) z9)))) (zj (zr (zw (za (yi (d:=.str "shut") (v:=.str "shut") rfl G_SHUT ⟨_,rfl⟩ (λ_=>.str)) (za (z0 yj (zb 2) (zb 12)) (za (zi 12) zn))))))) ye) (zd (yw (yk (qz hr) (DE.dv (z0 yj (zb 10) (DE.dv zc))) (zb 8) (yg _)) (zj (zr (yi (v:=.ref _) rfl G_FIRST_STANDING rfl N_FIRST_STANDING))) ye) (zj (zr (zw (za (yi (d:=.str "trying") (v:=.str "trying") rfl G_TRYING ⟨_,rfl⟩ (λ_=>.str)) (za (z0 yj (zb 10) (DE.dv zc)) (za (zi 11) zn)))))))))),?_⟩;walk_at "ds";simp only[heL]at q
 cases a with
 |true=>
  walk_at "ds";rw[if_pos rfl]at q
  split
  ·next c=>rw[if_pos c]at q;exact q
  ·next c=>rw[if_neg c]at q;exact q
 |false=>
  walk_at "ds";rw[if_neg (by decide)]at q;exact⟨j7 (by omega) (by omega) (by omega) (by omega),q⟩
def zg4:DSp:=λws Q=>∃(g:Gt) (s:Sg) (b:Int) (a:Bool),ws = [.val g.D,.val s.D,.val (.int b),.val (.bool a)]/\g.Ok/\s.Ok g/\s.shut=false/\Q (.val (heL g s b a).D)
theorem zok(B:Blt mg)(F:Fun K "heard" "heard" zfl f fd){t_SHUT:Tok}(G_SHUT:mg "SHUT" = some (.str "shut" t_SHUT)){t_OPEN:Tok}(G_OPEN:mg "OPEN" = some (.str "open" t_OPEN))(C_heard_open:Cal P w K mg base 1 "heard_open" ["gate", "bad", "beat", "answered"] (ya K jt))(C_heard_trying:Cal P w K mg base 1 "heard_trying" ["gate", "standing", "beat", "answered"] (ya K qv)):FnOk P w K mg base CX0 2 f fd ["gate", "standing", "beat", "answered"] (ya K zg4):=by
 refine F.dok zof (λws Q h=>?_) (λcdv A outer s H ws Q E hr h=>?_)
 ·obtain⟨g,s,b,a,rfl,_⟩:=h;rfl
 obtain⟨g,s,b,a,rfl,o,os,hs,q⟩:=h;have:=o.m2
 cases s with
 |sh u w=>cases hs
 |op k=>
  refine⟨_,(zd (yw (yk (qz hr) (DE.dv (yd (zb 1) zc (λ_ _=>rfl))) (DE.dv (yi (d:=.str "shut") (v:=.str "shut") rfl G_SHUT ⟨_,rfl⟩ (λ_=>.str))) (yg _)) (zj zgh) ye) (zd (yw (yk (qz hr) (DE.dv (yd (zb 1) zc (λ_ _=>rfl))) (DE.dv (yi (d:=.str "open") (v:=.str "open") rfl G_OPEN ⟨_,rfl⟩ (λ_=>.str))) (yg _)) (zj (zr (zh C_heard_open hr rfl (zm 0 (zq (yd (zb 1) zc (λ_ _=>rfl)) (zm 2 (zm 3 zo))))))) ye) (zj (zr (zh C_heard_trying hr rfl (zm 0 (zm 1 (zm 2 (zm 3 zo))))))))),?_⟩;simp only[Sg.D];walk_at "ds";refine⟨_,yr _ _,?_⟩;walk_at "ds";rw[if_neg zrl];refine⟨_,yr _ _,?_⟩;walk_at "ds";exact⟨_,y7 _ _ _,g,k,b,a,rfl,q⟩
 |tr k w=>
  simp only[Sg.Ok]at os;refine⟨_,(zd (yw (yk (qz hr) (DE.dv (yd (zb 1) zc (λ_ _=>rfl))) (DE.dv (yi (d:=.str "shut") (v:=.str "shut") rfl G_SHUT ⟨_,rfl⟩ (λ_=>.str))) (yg _)) (zj zgh) ye) (zd (yw (yk (qz hr) (DE.dv (yd (zb 1) zc (λ_ _=>rfl))) (DE.dv (yi (d:=.str "open") (v:=.str "open") rfl G_OPEN ⟨_,rfl⟩ (λ_=>.str))) (yg _)) (zj (zr (zh C_heard_open hr rfl (zm 0 (zq (yd (zb 1) zc (λ_ _=>rfl)) (zm 2 (zm 3 zo))))))) ye) (zj (zr (zh C_heard_trying hr rfl (zm 0 (zm 1 (zm 2 (zm 3 zo))))))))),?_⟩;simp only[Sg.D];walk_at "ds";refine⟨_,yr _ _,?_⟩;walk_at "ds";rw[if_neg zoi];refine⟨_,yr _ _,?_⟩;walk_at "ds";rw[if_neg zrm];exact⟨g,k,w,b,a,rfl,o,by omega,by omega,q⟩
end
section
variable {P:Program}{w:World}{K:PySem.W.Frag}{mg:Str->Option Value}{base:Heap}{f:Addr}{fd:FuncData}
def wc{α:Type}(l:α->List Int)(of:List Int->α)(xs:List α):List α:=(qo (xs.map l)).map of
section
variable {α:Type}{l:α->List Int}{of:List Int->α}
theorem yu(h:∀a,of (l a)=a)(xs:List α):(wc l of xs).Perm xs:=by
 have:=(j0 (xs.map l)).map of;rw[List.map_map]at this
 rwa [show xs.map (of ∘ l)=xs from(List.map_congr_left λa _=>h a).trans (List.map_id _)]at this
theorem zg5(h:∀a,of (l a)=a)(xs:List α):(wc l of xs).map l=qo (xs.map l):=by
 unfold wc;rw[List.map_map];refine(List.map_congr_left λt ht=>?_).trans (List.map_id _);obtain⟨a,_,rfl⟩:=List.mem_map.mp ((j0 _).mem_iff.mp ht);simp[h]
theorem zg6(h:∀a,of (l a)=a)(xs:List α):(qo (xs.map l)).map tD=(wc l of xs).map λa=>tD (l a):=by
 rw[<-zg5 h xs,List.map_map];rfl
theorem zen(h:∀a,of (l a)=a)(xs:List α):((wc l of xs).map l).Pairwise λa b=>¬ b<a:=by
 rw[zg5 h];exact zgl _
end
structure Ps where
 a:Int
 p:Int
 c:Int
 f:Int
def Ps.D(u:Ps):D:=.tuple [.int u.a,.int u.p,.int u.c,.int u.f]
structure Ps.Ok(u:Ps):Prop where
 a1:0<=u.a
 a2:u.a<=1000
 p1:1<=u.p
 p2:u.p<=1000
 c1:0<=u.c
 c2:u.c<=10000
 f1:0<=u.f
 f2:u.f<=u.c
structure Cl where
 p:Pl
 u:Ps
 g:Gt
def Cl.D(c:Cl):D:=.tuple [c.p.D,c.u.D,c.g.D]
structure Cl.Ok(c:Cl):Prop where
 p:c.p.Ok
 t:c.p.t<=1000
 u:c.u.Ok
 g:c.g.Ok
structure En where
 d:Int
 n:Int
 b:Int
 t:Int
def En.l(e:En):List Int:=[e.d,e.n,e.b,e.t]
def En.of:List Int->En
 |[d,n,b,t]=>⟨d,n,b,t⟩
 |_=>⟨0,0,0,0⟩
def En.D(e:En):D:=tD e.l
theorem En.of_l(e:En):En.of e.l=e:=rfl
structure Tr where
 n:Int
 b:Int
 t:Int
def Tr.l(e:Tr):List Int:=[e.n,e.b,e.t]
def Tr.of:List Int->Tr
 |[n,b,t]=>⟨n,b,t⟩
 |_=>⟨0,0,0⟩
def Tr.D(e:Tr):D:=tD e.l
theorem Tr.of_l(e:Tr):Tr.of e.l=e:=rfl
structure Sn where
 b:Int
 w:List En
 c:Int
 g:Sg
 k:Int
def Sn.D(s:Sn):D:=.tuple [.int s.b,.tuple (s.w.map En.D),.int s.c,s.g.D,.int s.k]
inductive Wt where
 |non|due (d:Int)|kno|tim|pur
def Wt.D:Wt->D
 |.non=>.none
 |.due d=>.int d
 |.kno=>.str "knocks"
 |.tim=>.str "time"
 |.pur=>.str "purse"
def wdE:Option Bool->D
 |none=>.str "held"
 |some true=>.str "served"
 |some false=>.str "silent"
structure Ev where
 n:Int
 w:Option Bool
 t:Wt
def Ev.D(e:Ev):D:=.tuple [.int e.n,wdE e.w,e.t.D]
def whL(c:Cl)(coins beat begin tries:Int):Wt :=
 if tries=c.p.n then .kno else if begin+c.p.t<beat+gp c.p.g (tries.toNat-1) then .tim else if coins<c.u.p then .pur else .due (beat+gp c.p.g (tries.toNat-1))
def j8(g:Gt)(s:Sg)(b:Int)(snd:Bool):Option Bool×Sg:=if (zb2 s b).1=true then (some snd,heL g (zb2 s b).2 b snd) else (none,(zb2 s b).2)
def zfs(c:Cl)(st:Sn)(g:Sg)(n b t:Int):Wt->Sn
 |.due d=>{ st with g:=g,c:=st.c-c.u.p,w:=st.w ++ [⟨d,n,b,t+1⟩] }
 |_=>{ st with g:=g }
def yv(c:Cl)(st:Sn)(snd:Bool)(n b t:Int):Sn×Ev :=
 if (j8 c.g st.g st.b snd).1=some true then ({ st with g:=(j8 c.g st.g st.b snd).2 },⟨n,some true,.non⟩)
 else (zfs c st (j8 c.g st.g st.b snd).2 n b t (whL c st.c st.b b (t+1)),⟨n,(j8 c.g st.g st.b snd).1,whL c st.c st.b b (t+1)⟩)
def yy(c:Cl)(st:Sn):Sn:={ st with c:=min (st.c+1 * c.u.a) c.u.c,k:=st.k+1 }
def qx(c:Cl)(snd:Bool):List Tr->Sn->List Ev->Sn×List Ev
 |[],st,es=>(st,es)
 |r::rs,st,es=>qx c snd rs (yv c st snd r.n r.b r.t).1 (es ++ [(yv c st snd r.n r.b r.t).2])
def zdn(c:Cl)(snd:Bool):Nat->Int->Sn->List Ev->Sn×List Ev
 |0,_,st,es=>(st,es)
 |m+1,n,st,es=>zdn c snd m (n+1) (yv c (yy c st) snd n st.b 0).1 (es ++ [(yv c (yy c st) snd n st.b 0).2])
def xa(st:Sn):List Tr:=wc Tr.l Tr.of ((st.w.filter λe=>decide (e.d<=st.b)).map λe=>⟨e.n,e.b,e.t⟩)
def xc(st:Sn):Sn:={ st with w:=st.w.filter λe=>decide (st.b<e.d) }
def zc4(c:Cl)(st:Sn)(snd:Bool)(many:Nat):Sn×List Ev :=
 let r1:=qx c snd (xa st) (xc st) []
 let r2:=zdn c snd many st.k r1.1 r1.2
 ({ r2.1 with b:=st.b+1,w:=wc En.l En.of r2.1.w },r2.2)
def x0(c:Cl):Sn:=⟨0,[],c.u.f,.op 0,0⟩
structure En.Ok(c:Cl)(e:En):Prop where
 d1:0<=e.d
 d2:e.d<=1000000
 t1:1<=e.t
 t2:e.t<c.p.n
structure Sn.Ok(c:Cl)(s:Sn):Prop where
 b1:0<=s.b
 b2:s.b<=900000
 w:∀e∈s.w,e.Ok c
 c1:0<=s.c
 c2:s.c<=10000
 g:s.g.Ok c.g
theorem zt6{g:Gt}(o:g.Ok){s:Sg}(h:s.Ok g){b:Int}(hb:0<=b/\b<=1900000){snd:Bool}:(j8 g s b snd).2.Ok g:=by
 have:=zoj o (s:=s) (b:=b) h;unfold j8
 split
 ·exact zwd o hb this.1
 ·exact this.1
theorem vf(c:Cl)(st:Sn)(snd:Bool)(n b t:Int):(yv c st snd n b t).1.b=st.b/\(yv c st snd n b t).1.k=st.k:=by
 unfold yv
 split
 ·exact⟨rfl,rfl⟩
 ·simp only[zfs]
  split <;> exact⟨rfl,rfl⟩
theorem zao(c:Cl)(st:Sn)(snd:Bool)(n b t:Int):(yv c st snd n b t).1.w.length<=st.w.length+1:=by
 unfold yv
 split
 ·simp
 ·simp only[zfs]
  split <;> simp
theorem zc5{c:Cl}(o:c.Ok){st:Sn}(h:st.Ok c){snd:Bool}{n b t:Int}(ht:0<=t)(ht2:t<c.p.n):(yv c st snd n b t).1.Ok c:=by
 have gk:=zt6 o.g h.g (b:=st.b) (by have:=h.b1;have:=h.b2;omega) (snd:=snd);unfold yv
 split
 ·exact⟨h.b1,h.b2,h.w,h.c1,h.c2,gk⟩
 ·unfold whL
  split
  ·exact⟨h.b1,h.b2,h.w,h.c1,h.c2,gk⟩
  ·split
   ·exact⟨h.b1,h.b2,h.w,h.c1,h.c2,gk⟩
   ·split
    ·exact⟨h.b1,h.b2,h.w,h.c1,h.c2,gk⟩
    ·have bd:=zki o.p.g ((t+1).toNat-1);have:=h.b1;have:=h.b2;have:=h.c1;have:=h.c2;have:=o.u.p1;refine⟨h.b1,h.b2,λe he=>?_,by simp only[zfs];omega,by simp only[zfs];omega,gk⟩;simp only[zfs]at he;rcases List.mem_append.mp he with he|he
     ·exact h.w e he
     ·cases List.mem_singleton.mp he;exact⟨by simp only[];omega,by simp only[];omega,by simp only[];omega,by simp only[];omega⟩
theorem zi6{c:Cl}(o:c.Ok){st:Sn}(h:st.Ok c):(yy c st).Ok c:=by
 have:=h.c1;have:=h.c2;have:=o.u.a1;have:=o.u.c1;have:=o.u.c2;exact⟨h.b1,h.b2,h.w,by simp only[yy];omega,by simp only[yy];omega,h.g⟩
def Tr.Ok(c:Cl)(r:Tr):Prop:=0<=r.t/\r.t<c.p.n
theorem zkk{c:Cl}(o:c.Ok){snd:Bool}:∀(rs:List Tr) (st:Sn) (es:List Ev),(∀r∈rs,r.Ok c)->st.Ok c->(qx c snd rs st es).1.Ok c/\(qx c snd rs st es).1.b=st.b/\(qx c snd rs st es).1.k=st.k/\(qx c snd rs st es).1.w.length<=st.w.length+rs.length/\(qx c snd rs st es).2.length=es.length+rs.length
 |[],st,es,_,h=>⟨h,rfl,rfl,by simp[qx],by simp[qx]⟩
 |r::rs,st,es,hr,h=>by
  obtain⟨h1,h2⟩:=hr r List.mem_cons_self;have tb:=vf c st snd r.n r.b r.t;have tl:=zao c st snd r.n r.b r.t;obtain⟨q1,q2,q3,q4,q5⟩:=zkk o rs (yv c st snd r.n r.b r.t).1 (es ++ [(yv c st snd r.n r.b r.t).2]) (λx hx=>hr x (List.mem_cons_of_mem _ hx)) (zc5 o h h1 h2);simp only[qx];refine⟨q1,q2.trans tb.1,q3.trans tb.2,?_,?_⟩
  ·rw[List.length_cons];omega
  ·rw[q5];simp;omega
def ko:DSp:=λws Q=>∃(u:Ps) (c m:Int),ws = [.val u.D,.val (.int c),.val (.int m)]/\u.Ok/\0<=m/\m<=1000000000/\Q (.val (.int (min (c+m * u.a) u.c)))
theorem zc6(B:Blt mg)(F:Fun K "coins_asked" "coins_asked" vk f fd):FnOk P w K mg base CX0 1 f fd ["purse", "coins", "many"] (ya K ko):=by
 refine F.dok zcz (λws Q h=>?_) (λcdv A outer s H ws Q E hr h=>?_)
 ·obtain⟨u,c,m,rfl,_⟩:=h;rfl
 obtain⟨u,c,m,rfl,o,m1,m2,q⟩:=h;have:=o.a1;have:=o.a2;simp only[Ps.D];refine⟨_,(zj (zr (yt (zge rfl) rfl B.min boot_min (zt (DE.dv (z0 yj (zb 1) (DE.dv (z0 zgc (zb 2) (DE.dv (yd (zb 0) zc (λ_ _=>rfl))))))) (zt (DE.dv (yd (zb 0) zc (λ_ _=>rfl))) z9))))),?_⟩;walk_at "ds";refine⟨_,yr _ _,?_⟩;walk_at "ds";refine⟨j7 (by omega) (by omega) (by omega) (by omega),_,jc _ _ _ _,?_⟩;walk_at "ds";exact q
def j9:DSp:=λws Q=>∃(u:Ps) (c:Int),ws = [.val u.D,.val (.int c)]/\Q (.val (.bool (decide (u.p<=c))))
theorem zi7(B:Blt mg)(F:Fun K "can_pay" "can_pay" zbg f fd):FnOk P w K mg base CX0 1 f fd ["purse", "coins"] (ya K j9):=by
 refine F.dok zi3 (λws Q h=>?_) (λcdv A outer s H ws Q E hr h=>?_)
 ·obtain⟨u,c,rfl,_⟩:=h;rfl
 obtain⟨u,c,rfl,q⟩:=h;simp only[Ps.D];refine⟨_,(zj (zr (zh2 zvp (zb 1) (DE.dv (yd (zb 0) zc (λ_ _=>rfl))) (yg _)))),?_⟩;walk_at "ds";refine⟨_,y7 _ _ _,?_⟩;walk_at "ds";exact q
def kq:DSp:=λws Q=>∃(u:Ps) (c:Int) (k:Bool),ws = [.val u.D,.val (.int c),.val (.str (if k=true then "k" else "a"))]/\u.Ok/\Q (.val (.int (if k=true then (if u.p<=c then c-u.p else c) else min (c+1 * u.a) u.c)))
theorem zwe:¬ ((Str.ofString "k")=(Str.ofString "a")):=by decide +kernel
theorem zg7(B:Blt mg)(F:Fun K "coins_by" "coins_by" j4 f fd){t_ASK:Tok}(G_ASK:mg "ASK" = some (.str "a" t_ASK))(C_coins_asked:Cal P w K mg base 1 "coins_asked" ["purse", "coins", "many"] (ya K ko))(C_can_pay:Cal P w K mg base 1 "can_pay" ["purse", "coins"] (ya K j9)):FnOk P w K mg base CX0 2 f fd ["purse", "coins", "sign"] (ya K kq):=by
 refine F.dok zg3 (λws Q h=>?_) (λcdv A outer s H ws Q E hr h=>?_)
 ·obtain⟨u,c,k,rfl,_⟩:=h;rfl
 obtain⟨u,c,k,rfl,o,q⟩:=h;refine⟨_,(zd (yw (yk (qz hr) (zb 2) (DE.dv (yi (d:=.str "a") (v:=.str "a") rfl G_ASK ⟨_,rfl⟩ (λ_=>.str))) (yg _)) (zj (zr (zh C_coins_asked hr rfl (zm 0 (zm 1 (zq zc zo yf)))))) ye) (zd (yw (wo (DE.dv (zh C_can_pay hr rfl (zm 0 (zm 1 zo))))) (zj (zr (z0 zd2 (zb 1) (DE.dv (yd (zb 0) zc (λ_ _=>rfl)))))) ye) (zj (zr (zi 1))))),?_⟩
 cases k with
 |false=>
  walk_at "ds";exact⟨u,c,1,rfl,o,by decide,by decide,q⟩
 |true=>
  walk_at "ds";rw[if_neg zwe];refine⟨u,c,rfl,?_⟩;simp only[Ps.D];walk_at "ds";rw[if_pos rfl]at q
  by_cases c1:u.p<=c
  ·rw[if_pos c1];rw[if_pos c1]at q;refine⟨_,y7 _ _ _,?_⟩;walk_at "ds";exact q
  ·rw[if_neg c1];rw[if_neg c1]at q;exact q
def kr:DSp:=λws Q=>∃(c:Cl),ws = [.val c.D]/\Q (.val (x0 c).D)
theorem zg8(B:Blt mg)(F:Fun K "first_of" "first_of" j5 f fd){ga_FIRST_STANDING:Addr}(G_FIRST_STANDING:mg "FIRST_STANDING" = some (.ref ga_FIRST_STANDING))(N_FIRST_STANDING:∀H,Rep K H (.tuple [(.str "open"),(.int 0)]) (.ref ga_FIRST_STANDING)):FnOk P w K mg base CX0 1 f fd ["caller"] (ya K kr):=by
 refine F.dok sc_first_of (λws Q h=>?_) (λcdv A outer s H ws Q E hr h=>?_)
 ·obtain⟨c,rfl,_⟩:=h;rfl
 obtain⟨c,rfl,q⟩:=h;simp only[Cl.D,Ps.D];refine⟨_,(zd (y3 (zi 0) (yq (n:=3) rfl (ze (zg (i:=1) sc_first_of.nd rfl (Or.inl rfl)) (ze (zg (i:=2) sc_first_of.nd rfl (Or.inl rfl)) (ze (zg (i:=3) sc_first_of.nd rfl (Or.inl rfl)) yh))))) (zj (zr (zw (za zc (za (zw zn) (za (yd (zb 2) zc (λ_ _=>rfl)) (za (yi (v:=.ref _) rfl G_FIRST_STANDING rfl N_FIRST_STANDING) (za zc zn yf))) vi) yf))))),?_⟩;walk_at "ds";refine⟨_,zd7 _ _ _ _ _,?_⟩;walk_at "ds";exact q
def zc7:DSp:=λws Q=>∃(g:Gt) (s:Sg) (b:Int) (snd:Bool),ws = [.val g.D,.val s.D,.val (.int b),.val (.bool snd)]/\g.Ok/\s.Ok g/\Q (.val (.tuple [wdE (j8 g s b snd).1,(j8 g s b snd).2.D]))
theorem zi8(B:Blt mg)(F:Fun K "knocked" "knocked" zbh f fd){t_HELD:Tok}(G_HELD:mg "HELD" = some (.str "held" t_HELD)){t_SERVED:Tok}(G_SERVED:mg "SERVED" = some (.str "served" t_SERVED)){t_SILENT:Tok}(G_SILENT:mg "SILENT" = some (.str "silent" t_SILENT))(C_lets:Cal P w K mg base 1 "lets" ["gate", "standing", "beat"] (ya K zkj))(C_heard:Cal P w K mg base 2 "heard" ["gate", "standing", "beat", "answered"] (ya K zg4)):FnOk P w K mg base CX0 3 f fd ["gate", "standing", "beat", "sound"] (ya K zc7):=by
 refine F.dok sc_knocked (λws Q h=>?_) (λcdv A outer s H ws Q E hr h=>?_)
 ·obtain⟨g,s,b,snd,rfl,_⟩:=h;rfl
 obtain⟨g,s,b,snd,rfl,o,os,q⟩:=h;have lk:=zoj o (s:=s) (b:=b) os;refine⟨_,(zd (y3 (zh C_lets hr rfl (zm 0 (zm 1 (zm 2 zo)))) (yq (n:=2) rfl (ze (zg (i:=4) sc_knocked.nd rfl (Or.inl rfl)) (ze (zg (i:=5) sc_knocked.nd rfl (Or.inl rfl)) yh)))) (zd (yw (x8 (wo (zb 4))) (zj (zr (zw (za (yi (d:=.str "held") (v:=.str "held") rfl G_HELD ⟨_,rfl⟩ (λ_=>.str)) (za (zi 5) zn))))) ye) (zj (zr (zw (za (zgb (wo (zb 3)) (yi (d:=.str "served") (v:=.str "served") rfl G_SERVED ⟨_,rfl⟩ (λ_=>.str)) (yi (d:=.str "silent") (v:=.str "silent") rfl G_SILENT ⟨_,rfl⟩ (λ_=>.str))) (za (zh C_heard hr rfl (zm 0 (zm 5 (zm 2 (zm 3 zo))))) zn))))))),?_⟩;walk_at "ds";refine⟨g.D,s,b,rfl,?_⟩;simp only[ltD];walk_at "ds";unfold j8 at q
 cases c:(zb2 s b).1 with
 |false=>
  rw[c]at q;walk_at "ds";exact q
 |true=>
  rw[c,if_pos rfl]at q;walk_at "ds"
  cases snd with
  |true=>
   walk_at "ds";exact⟨g,_,b,true,rfl,o,lk.1,lk.2 c,q⟩
  |false=>
   walk_at "ds";exact⟨g,_,b,false,rfl,o,lk.1,lk.2 c,q⟩
def h6:DSp:=λws Q=>∃(c:Cl) (co b bg t:Int),ws = [.val c.D,.val (.int co),.val (.int b),.val (.int bg),.val (.int t)]/\c.Ok/\1<=t/\t<=10000/\Q (.val (whL c co b bg t).D)
theorem zi9(B:Blt mg)(F:Fun K "what_of" "what_of" zbi f fd)(C_gap_at:Cal P w K mg base 2 "gap_at" ["gaps", "k"] (ya K zel))(C_can_pay:Cal P w K mg base 1 "can_pay" ["purse", "coins"] (ya K j9)):FnOk P w K mg base CX0 3 f fd ["caller", "coins", "beat", "begin", "tries"] (ya K h6):=by
 refine F.dok sc_what_of (λws Q h=>?_) (λcdv A outer s H ws Q E hr h=>?_)
 ·obtain⟨c,co,b,bg,t,rfl,_⟩:=h;rfl
 obtain⟨c,co,b,bg,t,rfl,o,t1,t2,q⟩:=h;simp only[Cl.D,Pl.D];refine⟨_,(zd (y3 (zi 0) (yq (n:=3) rfl (ze (yq (n:=3) rfl (ze (zg (i:=5) sc_what_of.nd rfl (Or.inl rfl)) (ze (zg (i:=6) sc_what_of.nd rfl (Or.inl rfl)) (ze (zg (i:=7) sc_what_of.nd rfl (Or.inl rfl)) yh)))) (ze (zg (i:=8) sc_what_of.nd rfl (Or.inl rfl)) (ze (zg (i:=9) sc_what_of.nd rfl (Or.inl rfl)) yh))))) (zd (yw (yk (qz hr) (zb 4) (zb 6) (yg _)) (zj (zr zh0)) ye) (zd (yo (i:=10) sc_what_of.nd rfl (Or.inl rfl) (z0 yj (zb 2) (DE.dv (zh C_gap_at hr rfl (zm 5 (zm 4 zo)))))) (zd (yw (yk zvo (zb 10) (DE.dv (z0 yj (zb 3) (zb 7))) (yg _)) (zj (zr zh0)) ye) (zd (yw (x8 (wo (DE.dv (zh C_can_pay hr rfl (zm 8 (zm 1 zo)))))) (zj (zr zh0)) ye) (zj (zr (zi 10)))))))),?_⟩;walk_at "ds";unfold whL at q
 by_cases c1:t=c.p.n
 ·rw[if_pos c1];rw[if_pos c1]at q;exact q
 ·rw[if_neg c1];rw[if_neg c1]at q;refine⟨c.p.g,t,rfl,o.p.g,t1,t2,?_⟩;walk_at "ds"
  by_cases c2:bg+c.p.t<b+gp c.p.g (t.toNat-1)
  ·rw[if_pos c2];rw[if_pos c2]at q;exact q
  ·rw[if_neg c2];rw[if_neg c2]at q;refine⟨c.u,co,rfl,?_⟩;walk_at "ds"
   by_cases c3:c.u.p<=co
   ·rw[if_neg (by omega)];rw[if_neg (by omega)]at q;exact q
   ·rw[if_pos (by omega)];rw[if_pos (by omega)]at q;exact q
def trD(r:Sn×Ev):D:=.tuple [r.1.D,r.2.D]
def zg9:DSp:=λws Q=>∃(c:Cl) (st:Sn) (snd:Bool) (n b t:Int),ws = [.val c.D,.val st.D,.val (.bool snd),.val (.int n),.val (.int b),.val (.int t)]/\c.Ok/\st.Ok c/\0<=t/\t<c.p.n/\st.w.length<=10000/\Q (.val (trD (yv c st snd n b t)))
theorem zwf:¬ ((Str.ofString "held")=(Str.ofString "served")):=by decide +kernel
theorem zwg:¬ ((Str.ofString "silent")=(Str.ofString "served")):=by decide +kernel
theorem zol(B:Blt mg)(F:Fun K "tried" "tried" zfm f fd){t_SERVED:Tok}(G_SERVED:mg "SERVED" = some (.str "served" t_SERVED)){t_KNOCK:Tok}(G_KNOCK:mg "KNOCK" = some (.str "k" t_KNOCK))(C_coins_by:Cal P w K mg base 2 "coins_by" ["purse", "coins", "sign"] (ya K kq))(C_knocked:Cal P w K mg base 3 "knocked" ["gate", "standing", "beat", "sound"] (ya K zc7))(C_what_of:Cal P w K mg base 3 "what_of" ["caller", "coins", "beat", "begin", "tries"] (ya K h6)):FnOk P w K mg base CX0 4 f fd ["caller", "standing", "sound", "number", "begin", "tries"] (ya K zg9):=by
 refine F.dok sc_tried (λws Q h=>?_) (λcdv A outer s H ws Q E hr h=>?_)
 ·obtain⟨c,st,snd,n,b,t,rfl,_⟩:=h;rfl
 obtain⟨c,st,snd,n,b,t,rfl,o,os,t1,t2,hl,q⟩:=h;have n2:=o.p.n2;simp only[Sn.D,Cl.D];refine⟨_,(zd (y3 (zi 1) (yq (n:=5) rfl (ze (zg (i:=6) sc_tried.nd rfl (Or.inl rfl)) (ze (zg (i:=7) sc_tried.nd rfl (Or.inl rfl)) (ze (zg (i:=8) sc_tried.nd rfl (Or.inl rfl)) (ze (zg (i:=9) sc_tried.nd rfl (Or.inl rfl)) (ze (zg (i:=10) sc_tried.nd rfl (Or.inl rfl)) yh))))))) (zd (y3 (zh C_knocked hr rfl (zq (yd (zb 0) zc (λ_ _=>rfl)) (zm 9 (zm 6 (zm 2 zo))))) (yq (n:=2) rfl (ze (zg (i:=11) sc_tried.nd rfl (Or.inl rfl)) (ze (zg (i:=9) sc_tried.nd rfl (Or.inl rfl)) yh)))) (zd (yw (yk (qz hr) (zb 11) (DE.dv (yi (d:=.str "served") (v:=.str "served") rfl G_SERVED ⟨_,rfl⟩ (λ_=>.str))) (yg _)) (zj (zr (zw (za (zw (za (zi 6) (za (zi 7) (za (zi 8) (za (zi 9) (za (zi 10) zn)))))) (za (zw (za (zi 3) (za (zi 11) (za zhz zn yf)))) zn vi) vi)))) ye) (zd (yo (i:=12) sc_tried.nd rfl (Or.inl rfl) (zh C_what_of hr rfl (zm 0 (zm 8 (zm 6 (zm 4 (zq (z0 yj (zb 5) (DE.dv zc)) zo))))))) (zd (yw (x8 (wo (DE.dv (za0 (n := "str") zvv rfl B.isinstance boot_isinstance (zb 12) rfl B.strT boot_str)))) (zd (yo (i:=8) sc_tried.nd rfl (Or.inl rfl) (zh C_coins_by hr rfl (zq (yd (zb 0) zc (λ_ _=>rfl)) (zm 8 (zq (yi (d:=.str "k") (v:=.str "k") rfl G_KNOCK ⟨_,rfl⟩ (λ_=>.str)) zo))))) (zj (yo (i:=7) sc_tried.nd rfl (Or.inl rfl) (z0 yj (zb 7) (DE.dv (zw (za (zw (za (zi 12) (za (zi 3) (za (zi 4) (za (z0 yj (zb 5) (DE.dv zc)) zn))))) zn vi))))))) ye) (zj (zr (zw (za (zw (za (zi 6) (za (zi 7) (za (zi 8) (za (zi 9) (za (zi 10) zn)))))) (za (zw (za (zi 3) (za (zi 11) (za (zi 12) zn)))) zn vi) vi))))))))),?_⟩;walk_at "ds";refine⟨_,jc _ _ _ _,?_⟩;refine⟨c.g,st.g,st.b,snd,rfl,o.g,os.g,?_⟩;walk_at "ds";unfold yv at q;have go:∀w:Option Bool,(j8 c.g st.g st.b snd).1=w->w≠some true->h6 [.val c.D,.val (.int st.c),.val (.int st.b),.val (.int b),.val (.int (t+1))] λr=>r=.val (whL c st.c st.b b (t+1)).D:=λw _ _=>⟨c,st.c,st.b,b,t+1,rfl,o,by omega,by omega,rfl⟩
 cases e:(j8 c.g st.g st.b snd).1 with
 |none=>
  rw[e,if_neg (by decide)]at q;simp only[wdE];walk_at "ds";rw[if_neg zwf];refine⟨c,st.c,st.b,b,t+1,rfl,o,by omega,by omega,?_⟩
  cases ew:whL c st.c st.b b (t+1) with
  |due d=>
   rw[ew]at q;simp only[Wt.D];walk_at "ds";refine⟨_,y7 _ _ _,?_⟩;refine⟨c.u,st.c,true,rfl,o.u,?_⟩;walk_at "ds";have hp:c.u.p<=st.c:=by
    unfold whL at ew
    split at ew
    ·cases ew
    ·split at ew
     ·cases ew
     ·split at ew
      ·cases ew
      ·omega
   rw[if_pos hp];rw[List.length_map];refine⟨by omega,?_⟩;simp only[trD,zfs,Sn.D,Ev.D,Wt.D,wdE]at q;rw[List.map_append]at q;exact q
  |non=>
   rw[ew]at q;simp only[Wt.D];exfalso;unfold whL at ew
   split at ew
   ·cases ew
   ·split at ew
    ·cases ew
    ·split at ew <;> cases ew
  |kno=>rw[ew]at q;simp only[Wt.D];walk_at "ds";exact q
  |tim=>rw[ew]at q;simp only[Wt.D];walk_at "ds";exact q
  |pur=>rw[ew]at q;simp only[Wt.D];walk_at "ds";exact q
 |some w=>
  cases w with
  |true=>
   rw[e,if_pos rfl]at q;simp only[wdE];walk_at "ds";exact q
  |false=>
   rw[e,if_neg (by decide)]at q;simp only[wdE];walk_at "ds";rw[if_neg zwg];refine⟨c,st.c,st.b,b,t+1,rfl,o,by omega,by omega,?_⟩
   cases ew:whL c st.c st.b b (t+1) with
   |due d=>
    rw[ew]at q;simp only[Wt.D];walk_at "ds";refine⟨_,y7 _ _ _,?_⟩;refine⟨c.u,st.c,true,rfl,o.u,?_⟩;walk_at "ds";have hp:c.u.p<=st.c:=by
     unfold whL at ew
     split at ew
     ·cases ew
     ·split at ew
      ·cases ew
      ·split at ew
       ·cases ew
       ·omega
    rw[if_pos hp];rw[List.length_map];refine⟨by omega,?_⟩;simp only[trD,zfs,Sn.D,Ev.D,Wt.D,wdE]at q;rw[List.map_append]at q;exact q
   |non=>
    rw[ew]at q;simp only[Wt.D];exfalso;unfold whL at ew
    split at ew
    ·cases ew
    ·split at ew
     ·cases ew
     ·split at ew <;> cases ew
   |kno=>rw[ew]at q;simp only[Wt.D];walk_at "ds";exact q
   |tim=>rw[ew]at q;simp only[Wt.D];walk_at "ds";exact q
   |pur=>rw[ew]at q;simp only[Wt.D];walk_at "ds";exact q
def zha:DSp:=λws Q=>∃(c:Cl) (st:Sn),ws = [.val c.D,.val st.D]/\c.Ok/\Q (.val (yy c st).D)
theorem zom(B:Blt mg)(F:Fun K "asked" "asked" zfn f fd){t_ASK:Tok}(G_ASK:mg "ASK" = some (.str "a" t_ASK))(C_coins_by:Cal P w K mg base 2 "coins_by" ["purse", "coins", "sign"] (ya K kq)):FnOk P w K mg base CX0 3 f fd ["caller", "standing"] (ya K zha):=by
 refine F.dok sc_asked (λws Q h=>?_) (λcdv A outer s H ws Q E hr h=>?_)
 ·obtain⟨c,st,rfl,_⟩:=h;rfl
 obtain⟨c,st,rfl,o,q⟩:=h;simp only[Sn.D,Cl.D];refine⟨_,(zd (y3 (zi 1) (yq (n:=5) rfl (ze (zg (i:=2) sc_asked.nd rfl (Or.inl rfl)) (ze (zg (i:=3) sc_asked.nd rfl (Or.inl rfl)) (ze (zg (i:=4) sc_asked.nd rfl (Or.inl rfl)) (ze (zg (i:=5) sc_asked.nd rfl (Or.inl rfl)) (ze (zg (i:=6) sc_asked.nd rfl (Or.inl rfl)) yh))))))) (zj (zr (zw (za (zi 2) (za (zi 3) (za (zh C_coins_by hr rfl (zq (yd (zb 0) zc (λ_ _=>rfl)) (zm 4 (zq (yi (d:=.str "a") (v:=.str "a") rfl G_ASK ⟨_,rfl⟩ (λ_=>.str)) zo)))) (za (zi 5) (za (z0 yj (zb 6) (DE.dv zc)) zn))))))))),?_⟩;walk_at "ds";refine⟨_,y7 _ _ _,?_⟩;exact⟨c.u,st.c,false,rfl,o.u,q⟩
end
section
variable {P:Program}{w:World}{K:PySem.W.Frag}{mg:Str->Option Value}{base:Heap}{f:Addr}{fd:FuncData}
def stD(r:Sn×List Ev):D:=.tuple [r.1.D,.tuple (r.2.map Ev.D)]
def h7:DSp:=λws Q=>∃(c:Cl) (st:Sn) (snd:Bool) (m:Nat),ws = [.val c.D,.val st.D,.val (.bool snd),.val (.int m)]/\c.Ok/\st.Ok c/\st.w.length<=15/\m<=15/\(0<=st.k/\st.k<=1000000)/\Q (.val (stD (zc4 c st snd m)))
theorem zja(B:Blt mg)(F:Fun K "stepped" "stepped" zbj f fd)(C_tried:Cal P w K mg base 4 "tried" ["caller", "standing", "sound", "number", "begin", "tries"] (ya K zg9))(C_asked:Cal P w K mg base 3 "asked" ["caller", "standing"] (ya K zha)):FnOk P w K mg base CX0 5 f fd ["caller", "standing", "sound", "many"] (ya K h7):=by
 refine F.dok sc_stepped (λws Q h=>?_) (λcdv A outer s H ws Q E hr h=>?_)
 ·obtain⟨c,st,snd,m,rfl,_⟩:=h;rfl
 obtain⟨c,st,snd,m,rfl,o,os,hl,hm,hk,q⟩:=h;simp only[Sn.D];refine⟨_,(zd (y3 (zi 1) (yq (n:=5) rfl (ze (zg (i:=4) sc_stepped.nd rfl (Or.inr rfl)) (ze (zg (i:=5) sc_stepped.nd rfl (Or.inl rfl)) (ze (zg (i:=6) sc_stepped.nd rfl (Or.inl rfl)) (ze (zg (i:=7) sc_stepped.nd rfl (Or.inl rfl)) (ze (zg (i:=8) sc_stepped.nd rfl (Or.inl rfl)) yh))))))) (zd (yo (i:=9) sc_stepped.nd rfl (Or.inl rfl) (DF.de (zgd zj4 rfl B.sorted boot_sorted (zt (DE.dv (DF.de (ql rfl (N':=["at", "number", "begin", "tries", "beat"]) (capt:=["beat"]) (k:=4) (js:=[4]) ⟨rfl,by decide,rfl,by decide,(.cons rfl .nil),rfl,(.cons rfl (Or.inl rfl) rfl (Or.inl rfl) .nil),rfl,by decide⟩ (xx (zb 5)) (λ_ _ _ _=>(yq (n:=4) rfl (ze (zg (i:=0) (show List.Nodup (["at", "number", "begin", "tries", "beat"]:List Str) by decide +kernel) rfl (Or.inl rfl) (Or.inr rfl)) (ze (zg (i:=1) (show List.Nodup (["at", "number", "begin", "tries", "beat"]:List Str) by decide +kernel) rfl (Or.inl rfl) (Or.inr rfl)) (ze (zg (i:=2) (show List.Nodup (["at", "number", "begin", "tries", "beat"]:List Str) by decide +kernel) rfl (Or.inl rfl) (Or.inr rfl)) (ze (zg (i:=3) (show List.Nodup (["at", "number", "begin", "tries", "beat"]:List Str) by decide +kernel) rfl (Or.inl rfl) (Or.inr rfl)) yh)))))) (λ_ _ _ _=>(ze9 (yk zck (zb 0) (zb 4) (yg _)))) (λ_ _ _ _=>(zw (za (zi 1) (za (zi 2) (za (zi 3) zn)))))))) z9)))) (zd (yo (i:=10) sc_stepped.nd rfl (Or.inl rfl) (zw (za (zi 4) (za (xj va rfl B.tupleT boot_tuple (zt (DE.dv (DF.de (ql rfl (N':=["entry", "beat"]) (capt:=["beat"]) (k:=1) (js:=[4]) ⟨rfl,by decide,rfl,by decide,(.cons rfl .nil),rfl,(.cons rfl (Or.inl rfl) rfl (Or.inl rfl) .nil),rfl,by decide⟩ (xx (zb 5)) (λ_ _ _ _=>(zg (i:=0) (show List.Nodup (["entry", "beat"]:List Str) by decide +kernel) rfl (Or.inl rfl) (Or.inr rfl))) (λ_ _ _ _=>(ze9 (yk zvo (DE.dv (yd (zb 0) zc (λ_ _=>rfl))) (zb 1) (yg _)))) (λ_ _ _ _=>(zi 0))))) z9)) (za (zi 6) (za (zi 7) (za (zi 8) zn))))))) (zd (zac (i:=11) sc_stepped.nd rfl (Or.inl rfl) (yz zn)) (zd (ka PassesOwn.never rfl (ze5 (zi 9)) (yq (n:=3) rfl (ze (zg (i:=12) sc_stepped.nd rfl (Or.inl rfl)) (ze (zg (i:=13) sc_stepped.nd rfl (Or.inl rfl)) (ze (zg (i:=14) sc_stepped.nd rfl (Or.inl rfl)) yh)))) (zd (y3 (zh C_tried hr rfl (zm 0 (zm 10 (zm 2 (zm 12 (zm 13 (zm 14 zo))))))) (yq (n:=2) rfl (ze (zg (i:=10) sc_stepped.nd rfl (Or.inl rfl)) (ze (zg (i:=15) sc_stepped.nd rfl (Or.inl rfl)) yh)))) (zj (vx 11 (zi 15))))) (zd (ka PassesOwn.never rfl (zlg rfl B.range (za (zi 8) (za (z0 yj (zb 8) (zb 3)) zn))) (zg (i:=12) sc_stepped.nd rfl (Or.inl rfl)) (zd (y3 (zh C_tried hr rfl (zm 0 (zq (zh C_asked hr rfl (zm 0 (zm 10 zo))) (zm 2 (zm 12 (zm 4 (zq zc zo yf))))))) (yq (n:=2) rfl (ze (zg (i:=10) sc_stepped.nd rfl (Or.inl rfl)) (ze (zg (i:=15) sc_stepped.nd rfl (Or.inl rfl)) yh)))) (zj (vx 11 (zi 15))))) (zj (zr (zw (za (z0 yj (DE.dv (zw (za (z0 yj (zb 4) (DE.dv zc)) (za (xj va rfl B.tupleT boot_tuple (zt (DE.dv (DF.de (zgd zj4 rfl B.sorted boot_sorted (zt (DE.dv (yd (zb 10) zc (λ_ _=>rfl))) z9)))) z9)) zn)))) (DE.dv (wu (zb 10) (xw zc) ja))) (za (xj va rfl B.tupleT boot_tuple (zt (zb 11) z9)) zn))))))))))),?_⟩
 walk_at "ds";rw[List.length_map];refine⟨by omega,zb6 En.D (λe=>if e.d<=st.b then some (Tr.D ⟨e.n,e.b,e.t⟩) else none) (λe he k hk=>?_) ?_⟩
 ·simp only[En.D,tD,En.l,List.map_cons,List.map_nil]at hk ⊢;walk_at "ds"
  split
  ·next c=>rw[if_pos c]at hk;walk_at "ds";exact hk
  ·next c=>rw[if_neg c]at hk;exact hk
 ·have e1:st.w.filterMap (λe=>if e.d<=st.b then some (Tr.D ⟨e.n,e.b,e.t⟩) else none)=(((st.w.filter λe=>decide (e.d<=st.b)).map λe=>(⟨e.n,e.b,e.t⟩:Tr)).map Tr.l).map tD:=by
   rw[List.map_map,List.map_map];generalize st.w=w
   induction w with
   |nil=>rfl
   |cons x w ih=>
    rw[List.filterMap_cons,List.filter_cons]
    by_cases z:x.d<=st.b
    ·rw[if_pos z,if_pos (decide_eq_true z),ih];rfl
    ·rw[if_neg z,if_neg (by simpa using z),ih]
  rw[e1];refine⟨by simp only[List.length_map];have:=List.length_filter_le (λe=>decide (e.d<=st.b)) st.w;omega,.inr ⟨_,rfl,λt ht=>?_,?_⟩⟩
  ·obtain⟨x,_,rfl⟩:=List.mem_map.mp ht;simp[Tr.l]
  rw[zg6 Tr.of_l];walk_at "ds";refine⟨by omega,zb6 En.D (λe=>if st.b<e.d then some e.D else none) (λe he k hk=>?_) ?_⟩
  ·simp only[En.D,tD,En.l,List.map_cons,List.map_nil]at hk ⊢;walk_at "ds";refine⟨_,yr _ _,?_⟩;walk_at "ds"
   split
   ·next c=>rw[if_pos c]at hk;exact hk
   ·next c=>rw[if_neg c]at hk;exact hk
  ·have e2:st.w.filterMap (λe=>if st.b<e.d then some e.D else none)=(st.w.filter λe=>decide (st.b<e.d)).map En.D:=by
    generalize st.w=w
    induction w with
    |nil=>rfl
    |cons x w ih=>
     rw[List.filterMap_cons,List.filter_cons]
     by_cases z:st.b<x.d
     ·rw[if_pos z,if_pos (decide_eq_true z),ih];rfl
     ·rw[if_neg z,if_neg (by simpa using z),ih]
   rw[e2];walk_at "ds";have l1:(st.w.filter λe=>decide (st.b<e.d)).length<=st.w.length:=List.length_filter_le _ _;have os0:(xc st).Ok c:=⟨os.b1,os.b2,λe he=>os.w e (List.mem_filter.mp he).1,os.c1,os.c2,os.g⟩
   have hdue:∀r∈xa st,r.Ok c:=λr hr=>by
    have:=(yu Tr.of_l _).mem_iff.mp hr;obtain⟨e,he,rfl⟩:=List.mem_map.mp this;have:=os.w e (List.mem_filter.mp he).1;exact⟨by have:=this.t1;simp only[];omega,this.t2⟩
   have ldue:(xa st).length<=st.w.length:=by
    unfold xa;rw[(yu Tr.of_l _).length_eq,List.length_map];exact List.length_filter_le _ _
   obtain⟨f1,f2,f3,f4,f5⟩:=zkk o (snd:=snd) (xa st) (xc st) [] hdue os0;rw[List.length_nil,Nat.zero_add]at f5;have q':Q (.val (stD (let r2:=zdn c snd m st.k (qx c snd (xa st) (xc st) []).1 (qx c snd (xa st) (xc st) []).2;({ r2.1 with b:=st.b+1,w:=wc En.l En.of r2.1.w },r2.2)))):=q;clear q;have lr:(xc st).w.length<=st.w.length:=l1;refine xp (λds σ=>∃(rs:List Tr) (s1:Sn) (es:List Ev) (u10 u11 u12 u13:Option W),ds=rs.map (λa=>tD (Tr.l a))/\σ = [some (.val c.D),some (.val st.D),some (.val (.bool snd)),some (.val (.int m)),some (.val (.int st.b)),some (.val (.tuple (st.w.map En.D))),some (.val (.int st.c)),some (.val st.g.D),some (.val (.int st.k)),some (.val (.list ((xa st).map λa=>tD (Tr.l a)))),some (.val s1.D),some (.own (.lst (es.map Ev.D))),u10,u11,u12,u13]/\s1.Ok c/\(∀r∈rs,r.Ok c)/\s1.w.length+rs.length<=40/\es.length+rs.length<=40/\qx c snd rs s1 es=qx c snd (xa st) (xc st) []) ?_ ?_ ⟨xa st,xc st,[],none,none,none,none,rfl,rfl,os0,hdue,by omega,by simp only[List.length_nil];omega,rfl⟩
   ·rintro d ds σ N ⟨rs,s1,es,u10,u11,u12,u13,e,rfl,o1,hr1,w1,w2,ed⟩ k
    cases rs with
    |nil=>cases e
    |cons r rs=>
     cases e;simp only[tD,Tr.l,List.map_cons,List.map_nil];walk_at "ds";rw[List.length_cons]at w1 w2;have hr0:=hr1 r List.mem_cons_self;refine⟨c,s1,snd,r.n,r.b,r.t,rfl,o,o1,hr0.1,hr0.2,by omega,?_⟩;simp only[trD];walk_at "ds";rw[List.length_map];have tl:=zao c s1 snd r.n r.b r.t;refine⟨by omega,k _ ⟨rs,(yv c s1 snd r.n r.b r.t).1,es ++ [(yv c s1 snd r.n r.b r.t).2],_,_,_,_,rfl,(by rw[List.map_append];rfl),zc5 o o1 hr0.1 hr0.2,λx hx=>hr1 x (List.mem_cons_of_mem _ hx),by omega,by simp;omega,ed⟩⟩
   ·rintro σ ⟨rs,s1,es,u10,u11,u12,u13,e,rfl,o1,hr1,w1,w2,ed⟩
    cases rs with
    |cons r rs=>cases e
    |nil=>
     rw[<-ed]at q' f1 f2 f3 f4 f5;simp only[qx]at q' f1 f2 f3 f4 f5;clear ed e hr1;walk_at "ds";refine⟨by omega,?_⟩;rw[show(st.k+(m:Int)-st.k).toNat=m by omega];refine xp (λds σ=>∃(j:Nat) (n:Int) (s2:Sn) (es2:List Ev) (u10 u11 u12 u13:Option W),ds=y6 n j/\σ = [some (.val c.D),some (.val st.D),some (.val (.bool snd)),some (.val (.int m)),some (.val (.int st.b)),some (.val (.tuple (st.w.map En.D))),some (.val (.int st.c)),some (.val st.g.D),some (.val (.int st.k)),some (.val (.list ((xa st).map λa=>tD (Tr.l a)))),some (.val s2.D),some (.own (.lst (es2.map Ev.D))),u10,u11,u12,u13]/\s2.Ok c/\s2.b=st.b/\s2.w.length+j<=60/\es2.length+j<=60/\zdn c snd j n s2 es2=zdn c snd m st.k s1 es) ?_ ?_ ⟨m,st.k,s1,es,_,_,_,_,rfl,rfl,o1,f2,by omega,by omega,rfl⟩
     ·rintro d ds σ N ⟨j,n,s2,es2,u10,u11,u12,u13,e,rfl,o2,eb,w3,w4,ed⟩ k
      cases j with
      |zero=>cases e
      |succ j=>
       rw[vc]at e
       cases e;walk_at "ds";refine⟨c,s2,rfl,o,?_⟩;have n1:=o.p.n1;refine⟨c,yy c s2,snd,n,st.b,0,rfl,o,zi6 o o2,by decide,by omega,by show s2.w.length<=_;omega,?_⟩;simp only[trD];walk_at "ds";rw[List.length_map];have tl:=zao c (yy c s2) snd n st.b 0;have a3:(yy c s2).w=s2.w:=rfl;rw[a3]at tl;have tb:=vf c (yy c s2) snd n st.b 0;simp only[zdn]at ed;rw[eb]at ed;refine⟨by omega,k _ ⟨j,n+1,(yv c (yy c s2) snd n st.b 0).1,es2 ++ [(yv c (yy c s2) snd n st.b 0).2],_,_,_,_,rfl,(by rw[List.map_append];rfl),zc5 o (zi6 o o2) (by decide) (by omega),tb.1.trans eb,by omega,by simp;omega,ed⟩⟩
     ·rintro σ ⟨j,n,s2,es2,u10,u11,u12,u13,e,rfl,o2,eb,w3,w4,ed⟩
      cases j with
      |succ j=>rw[vc]at e;cases e
      |zero=>
       rw[<-ed]at q';simp only[zdn]at q';simp only[Sn.D];walk_at "ds";refine⟨_,y7 _ _ _,?_⟩;refine⟨by rw[List.length_map];omega,.inr ⟨s2.w.map En.l,by rw[List.map_map];rfl,λt ht=>?_,?_⟩⟩
       ·obtain⟨x,_,rfl⟩:=List.mem_map.mp ht;simp[En.l]
       ·rw[zg6 En.of_l];walk_at "ds";rw[zbr _ (by decide),show(2:Int).toNat=2 from rfl];simp only[List.drop_succ_cons,List.drop_zero];refine⟨by show(2+3:Nat)<=_;decide,q'⟩
theorem vz(p:Key×D)(ks:List (Key×D))(j:Key):xr (p::ks) j=if p.1=j then some p.2 else xr ks j:=by
 unfold xr;rw[List.find?_cons]
 by_cases c:p.1=j
 ·simp[c]
 ·simp[c]
theorem zhb(k j:Key)(d:D)(ks:List (Key×D)):xr (zaj ks k d) j=if j=k then some d else xr ks j:=by
 have app:∀ks:List (Key×D),(ks.any λkv=>decide (kv.1=k))=false->xr (ks ++ [(k,d)]) j=if j=k then some d else xr ks j:=λks=>by
  induction ks with
  |nil=>intro _;rw[List.nil_append,vz];by_cases c:k=j <;> simp[c,xr,eq_comm]
  |cons p ks ih=>
   intro h;rw[List.any_cons,Bool.or_eq_false_iff]at h;have np:p.1≠k:=by simpa using h.1
   rw[List.cons_append,vz,vz,ih h.2]
   by_cases c:p.1=j
   ·subst c;simp[np]
   ·simp[c]
 have mp:∀ks:List (Key×D),(ks.any λkv=>decide (kv.1=k))=true->xr (ks.map λkv=>if kv.1=k then (kv.1,d) else kv) j=if j=k then some d else xr ks j:=λks=>by
  induction ks with
  |nil=>intro h;cases h
  |cons p ks ih=>
   intro h;rw[List.map_cons,vz,vz]
   by_cases c:p.1=k
   ·rw[if_pos c]
    by_cases cj:j=k
    ·subst cj;simp[c]
    ·rw[if_neg (show ¬ p.1=j by rw[c];exact λz=>cj z.symm),if_neg cj,if_neg (show ¬ p.1=j by rw[c];exact λz=>cj z.symm)]
     by_cases ca:(ks.any λkv=>decide (kv.1=k))=true
     ·rw[ih ca,if_neg cj]
     ·have:(ks.map λkv=>if kv.1=k then (kv.1,d) else kv)=ks:=by
       refine(List.map_congr_left λq hq=>?_).trans (List.map_id _);have:¬ q.1=k:=λz=>ca (List.any_eq_true.mpr ⟨q,hq,decide_eq_true z⟩);rw[if_neg this];rfl
      rw[this]
   ·rw[if_neg c]
    have h':(ks.any λkv=>decide (kv.1=k))=true:=by
     rw[List.any_cons]at h;simpa[c]using h
    rw[ih h']
    by_cases cj:p.1=j
    ·have:¬ j=k:=λz=>c (cj.trans z);simp[cj,this]
    ·simp[cj]
 unfold zaj
 by_cases ca:(ks.any λkv=>decide (kv.1=k))=true
 ·rw[if_pos ca];exact mp ks ca
 ·rw[if_neg ca];exact app ks (Bool.eq_false_iff.mpr ca)
theorem zon(k:Key)(d:D)(ks:List (Key×D)):(zaj ks k d).length<=ks.length+1:=by
 unfold zaj
 split <;> simp
structure E4 where
 b:Int
 e:Ev
def E4.D(x:E4):D:=.tuple [.int x.b,.int x.e.n,wdE x.e.w,x.e.t.D]
def zoo(x:E4):D:=if x.e.w=some true then .tuple [.str "served",.int x.b] else .tuple [.str "lost",.int x.b,x.e.t.D]
def v4(ks:List (Key×D))(es:List E4):List (Key×D):=es.foldl (λks x=>zaj ks (Sum.inl x.e.n) (zoo x)) ks
theorem zx0:¬ ((Str.ofString "silent")=(Str.ofString "served")):=by decide +kernel
theorem zwh:¬ ((Str.ofString "held")=(Str.ofString "served")):=by decide +kernel
def zc8:DSp:=λws Q=>∃(es:List E4) (m:Nat),ws = [.val (.tuple (es.map E4.D)),.val (.int m)]/\m<=1000/\es.length<=100000/\(∀i:Nat,i<m->(xr (v4 [] es) (Sum.inl (i:Int))).isSome=true)/\Q (.val (.tuple ((List.range m).map λi:Nat=>(xr (v4 [] es) (Sum.inl (i:Int))).getD .none)))
theorem zjb(B:Blt mg)(F:Fun K "ends_of" "ends_of" zbk f fd){t_SERVED:Tok}(G_SERVED:mg "SERVED" = some (.str "served" t_SERVED)){t_LOST:Tok}(G_LOST:mg "LOST" = some (.str "lost" t_LOST)):FnOk P w K mg base CX0 1 f fd ["events", "many"] (ya K zc8):=by
 refine F.dok sc_ends_of (λws Q h=>?_) (λcdv A outer s H ws Q E hr h=>?_)
 ·obtain⟨es,m,rfl,_⟩:=h;rfl
 obtain⟨es,m,rfl,hm,hl,hs,q⟩:=h;refine⟨_,(zd (zp3 (i:=2) sc_ends_of.nd rfl (Or.inr rfl)) (zd (ka PassesOwn.never rfl (ze5 (zi 0)) (yq (n:=4) rfl (ze (zg (i:=3) sc_ends_of.nd rfl (Or.inl rfl)) (ze (zg (i:=4) sc_ends_of.nd rfl (Or.inl rfl)) (ze (zg (i:=5) sc_ends_of.nd rfl (Or.inl rfl)) (ze (zg (i:=6) sc_ends_of.nd rfl (Or.inl rfl)) yh))))) (zj (zp5 2 hr (zi 4) (zgb (yk (qz hr) (zb 5) (DE.dv (yi (d:=.str "served") (v:=.str "served") rfl G_SERVED ⟨_,rfl⟩ (λ_=>.str))) (yg _)) (zw (za (yi (d:=.str "served") (v:=.str "served") rfl G_SERVED ⟨_,rfl⟩ (λ_=>.str)) (za (zi 3) zn))) (zw (za (yi (d:=.str "lost") (v:=.str "lost") rfl G_LOST ⟨_,rfl⟩ (λ_=>.str)) (za (zi 3) (za (zi 6) zn)))))))) (zj (zr (xj va rfl B.tupleT boot_tuple (zt (DE.dv (DF.de (ql rfl (N':=["number", "ends"]) (capt:=["ends"]) (k:=1) (js:=[2]) ⟨rfl,by decide,rfl,by decide,(.cons rfl .nil),rfl,(.cons rfl (Or.inl rfl) rfl (Or.inl rfl) .nil),rfl,by decide⟩ (DI.w (jb rfl B.range (za (zi 1) zn))) (λ_ _ _ _=>(zg (i:=0) (show List.Nodup (["number", "ends"]:List Str) by decide +kernel) rfl (Or.inl rfl) (Or.inr rfl))) (λ_ _ _ _=>wg) (λ_ _ _ _=>(zp4 1 hr (zi 0)))))) z9)))))),?_⟩;walk_at "ds";refine xp (λds σ=>∃(xs:List E4) (ks:List (Key×D)) (u3 u4 u5 u6:Option W),ds=xs.map E4.D/\ks.length+xs.length<=100000/\v4 ks xs=v4 [] es/\σ = [some (.val (.tuple (es.map E4.D))),some (.val (.int m)),some (.own (.dct ks)),u3,u4,u5,u6]) ?_ ?_ ⟨es,[],none,none,none,none,rfl,by simpa using hl,rfl,rfl⟩
 ·rintro d ds σ N ⟨xs,ks,u3,u4,u5,u6,e,hk,ee,rfl⟩ k
  cases xs with
  |nil=>cases e
  |cons x xs=>
   cases e;rw[List.length_cons]at hk;obtain⟨b,n,w,t⟩:=x;have sl:=zon (Sum.inl n) (zoo ⟨b,⟨n,w,t⟩⟩) ks;have go:∀u3 u4 u5 u6,N [some (.val (.tuple (es.map E4.D))),some (.val (.int m)),some (.own (.dct (zaj ks (Sum.inl n) (zoo ⟨b,⟨n,w,t⟩⟩)))),u3,u4,u5,u6]:=λu3 u4 u5 u6=>k _ ⟨xs,zaj ks (Sum.inl n) (zoo ⟨b,⟨n,w,t⟩⟩),_,_,_,_,rfl,by omega,ee,rfl⟩
   cases w with
   |none=>
    simp only[E4.D,wdE];walk_at "ds";rw[if_neg zwh];exact⟨by omega,go _ _ _ _⟩
   |some w=>
    cases w with
    |true=>
     simp only[E4.D,wdE];walk_at "ds";exact⟨by omega,go _ _ _ _⟩
    |false=>
     simp only[E4.D,wdE];walk_at "ds";rw[if_neg zx0];exact⟨by omega,go _ _ _ _⟩
 ·rintro σ ⟨xs,ks,u3,u4,u5,u6,e,hk,ee,rfl⟩
  cases xs with
  |cons x xs=>cases e
  |nil=>
   have ee':ks=v4 [] es:=ee;subst ee';walk_at "ds";rw[Int.toNat_natCast];refine⟨⟨by omega,by omega⟩,by simp[y6];omega,zlj (λi=>(xr (v4 [] es) (Sum.inl (i:Int))).getD .none) (λi hi kk hk'=>?_) ?_⟩
   ·walk_at "ds";rw[Int.zero_add];obtain⟨d,hd⟩:=Option.isSome_iff_exists.mp (hs i hi);rw[hd]at hk' ⊢;exact⟨d,rfl,hk'⟩
   ·walk_at "ds";exact q
def zap(st:Sn)(as:List Int):List Int:=(st.w.take 1).map (·.d)++(as.drop st.k.toNat).take 1
def ku:DSp:=λws Q=>∃(st:Sn) (as:List Int),ws = [.val st.D,.val (.tuple (as.map PyData.int))]/\0<=st.k/\(zap st as = []->Q (.val .none))/\∀m∈zap st as,(∀a∈zap st as,m<=a)->Q (.val (.int m))
theorem zhc(B:Blt mg)(F:Fun K "next_try" "next_try" j6 f fd):FnOk P w K mg base CX0 1 f fd ["standing", "askings"] (ya K ku):=by
 refine F.dok sc_next_try (λws Q h=>?_) (λcdv A outer s H ws Q E hr h=>?_)
 ·obtain⟨st,as,rfl,_⟩:=h;rfl
 obtain⟨st,as,rfl,hk,q0,q1⟩:=h;simp only[Sn.D];refine⟨_,(zd (y3 (zi 0) (yq (n:=5) rfl (ze (zg (i:=2) sc_next_try.nd rfl (Or.inl rfl)) (ze (zg (i:=3) sc_next_try.nd rfl (Or.inl rfl)) (ze (zg (i:=4) sc_next_try.nd rfl (Or.inl rfl)) (ze (zg (i:=5) sc_next_try.nd rfl (Or.inl rfl)) (ze (zg (i:=6) sc_next_try.nd rfl (Or.inl rfl)) yh))))))) (zj (zr (zpu rfl rfl B.min (zt (DE.dv (z0 yj (DE.dv (DF.de (ql rfl (N':=["entry"]) (capt:=[]) (k:=1) (js:=[]) ⟨rfl,by decide,rfl,by decide,.nil,rfl,.nil,rfl,by decide⟩ (xx (DE.dv (wu (zb 3) ja (xw zc)))) (λ_ _ _ _=>(zg (i:=0) (show List.Nodup (["entry"]:List Str) by decide +kernel) rfl (Or.inl rfl) (Or.inr rfl))) (λ_ _ _ _=>wg) (λ_ _ _ _=>(yd (zb 0) zc (λ_ _=>rfl)))))) (DE.dv (DF.de (zd3 zmv rfl B.listT boot_list (zt (DE.dv (wu (zb 1) (xw (zi 6)) (xw (z0 yj (zb 6) (DE.dv zc))))) z9)))))) z9) zhz)))),?_⟩;walk_at "ds";rw[sliceD_take0 _ (by decide),show(1:Int).toNat=1 from rfl,<-List.map_take,List.length_map];refine⟨by rw[List.length_take];omega,xq En.D (λe=>.int e.d) (λe he k hk'=>?_) ?_⟩
 ·simp only[En.D,tD,En.l,List.map_cons,List.map_nil];walk_at "ds";exact⟨_,yr _ _,hk'⟩
 ·walk_at "ds"
  have e1:y0 (as.map PyData.int) (some st.k) (some (st.k+1))=((as.drop st.k.toNat).take 1).map PyData.int:=by
   rw[zgj _ hk (by omega),show(st.k+1).toNat-st.k.toNat=1 by omega,<-List.map_drop,<-List.map_take]
  have e2:(st.w.take 1).map (λe=>PyData.int e.d)=((st.w.take 1).map (·.d)).map PyData.int:=by rw[List.map_map];rfl
  rw[e1,e2,<-List.map_append];refine⟨by simp;omega,zap st as,zd4 _,q0,q1⟩
end
section
variable {P:Program}{w:World}{K:PySem.W.Frag}{mg:Str->Option Value}{base:Heap}{f:Addr}{fd:FuncData}
def nxL(st:Sn)(as:List Int):Option Int:=match st.w.head?,(as.drop st.k.toNat).head? with
 |none,none=>none
 |some e,none=>some e.d
 |none,some a=>some a
 |some e,some a=>some (min e.d a)
def y8(c:Cl)(as:List Int)(sd:Int->Bool)(st:Sn)(b:Int):Sn×List Ev:=zc4 c { st with b:=b } (sd b) (as.count b)
def evF(c:Cl)(as:List Int)(sd:Int->Bool):Nat->Sn->List E4->Sn×List E4
 |0,st,es=>(st,es)
 |f+1,st,es=>match nxL st as with
  |none=>(st,es)
  |some b=>evF c as sd f (y8 c as sd st b).1 (es++(y8 c as sd st b).2.map (E4.mk b))
theorem zhd{c:Cl}{snd:Bool}(P:List Tr->Sn->List Ev->Prop)(hs:∀r rs s es,P (r::rs) s es->P rs (yv c s snd r.n r.b r.t).1 (es ++ [(yv c s snd r.n r.b r.t).2])):
  ∀rs s es,P rs s es->P [] (qx c snd rs s es).1 (qx c snd rs s es).2
 |[],_,_,h=>h
 |r::rs,s,es,h=>zhd P hs rs _ _ (hs r rs s es h)
theorem zhe{c:Cl}{snd:Bool}(P:Nat->Sn->List Ev->Prop)(hs:∀m s es,P (m+1) s es->P m (yv c (yy c s) snd s.k s.b 0).1 (es ++ [(yv c (yy c s) snd s.k s.b 0).2])):
  ∀m s es,P m s es->P 0 (zdn c snd m s.k s es).1 (zdn c snd m s.k s es).2
 |0,_,_,h=>h
 |m+1,s,es,h=>by
  have tb:=(vf c (yy c s) snd s.k s.b 0).2;have:=zhe P hs m _ _ (hs m s es h);rw[tb]at this;exact this
theorem zop{c:Cl}{snd:Bool}(P:List Tr->Nat->Sn->List Ev->Prop)(st:Sn)(many:Nat)(h0:P (xa st) many (xc st) [])
  (hd:∀r rs m s es,s.b=st.b->P (r::rs) m s es->P rs m (yv c s snd r.n r.b r.t).1 (es ++ [(yv c s snd r.n r.b r.t).2]))
  (hn:∀m s es,s.b=st.b->P [] (m+1) s es->P [] m (yv c (yy c s) snd s.k s.b 0).1 (es ++ [(yv c (yy c s) snd s.k s.b 0).2])) :
  ∃s,s.b=st.b/\P [] 0 s (zc4 c st snd many).2/\(zc4 c st snd many).1 = { s with b:=st.b+1,w:=wc En.l En.of s.w }:=by
 have h1:=zhd (c:=c) (snd:=snd) (λrs s es=>(s.b=st.b/\s.k=st.k)/\P rs many s es) (λr rs s es h=>⟨⟨(vf c s snd r.n r.b r.t).1.trans h.1.1,(vf c s snd r.n r.b r.t).2.trans h.1.2⟩,hd r rs many s es h.1.1 h.2⟩) (xa st) (xc st) [] ⟨⟨rfl,rfl⟩,h0⟩;have h2:=zhe (c:=c) (snd:=snd) (λm s es=>s.b=st.b/\P [] m s es) (λm s es h=>⟨(vf c (yy c s) snd s.k s.b 0).1.trans h.1,hn m s es h.1 h.2⟩) many _ _ ⟨h1.1.1,h1.2⟩;rw[h1.1.2]at h2;exact⟨_,h2.1,h2.2,rfl⟩
structure Gd(c:Cl)(as:List Int)(st:Sn):Prop where
 ok:st.Ok c
 bb:st.b<=801001
 k0:0<=st.k
 k1:st.k<=as.length
 wl:(st.w.length:Int)<=st.k
 en:∀e∈st.w,st.b<=e.d/\e.d<=e.b+c.p.t/\e.b<=800000/\0<=e.n/\e.n<st.k/\as[e.n.toNat]?=some e.b
 so:(st.w.map En.l).Pairwise λa b=>¬ b<a
 lo:∀i:Nat,i<st.k.toNat->∀a,as[i]?=some a->a<st.b
 hi:∀i:Nat,st.k.toNat<=i->∀a,as[i]?=some a->st.b<=a
structure Ask(as:List Int):Prop where
 le:∀a∈as,0<=a/\a<=800000
 so:as.Pairwise (· <= ·)
 ln:as.length<=15
theorem zqn{e:En}{w:List En}(h:((e::w).map En.l).Pairwise λa b=>¬ b<a):∀x∈e::w,e.d<=x.d:=λx hx=>by
 rcases List.mem_cons.mp hx with rfl|hx
 ·exact Int.le_refl _
 ·rw[List.map_cons,List.pairwise_cons]at h;have:=h.1 x.l (List.mem_map_of_mem hx);rcases Int.lt_or_le x.d e.d with z|z
  ·exact absurd (List.Lex.rel z) this
  ·exact z
theorem zb8{st:Sn}{as:List Int}(h:nxL st as=none):st.w = []/\as.drop st.k.toNat = []:=by
 unfold nxL at h
 cases hw:st.w with
 |cons e w=>rw[hw]at h;cases hd:as.drop st.k.toNat <;> rw[hd]at h <;> cases h
 |nil=>
  cases hd:as.drop st.k.toNat with
  |nil=>exact⟨rfl,rfl⟩
  |cons a r=>rw[hw,hd]at h;cases h
theorem xt{c:Cl}(o:c.Ok){as:List Int}{st:Sn}(A:Ask as)(G:Gd c as st){b:Int}(h:nxL st as=some b):
  st.b<=b/\b<=801000/\(∀e∈st.w,b<=e.d)/\(∀i:Nat,st.k.toNat<=i->∀a,as[i]?=some a->b<=a)/\((∃e∈st.w,e.d=b)\/∃a,as[st.k.toNat]?=some a/\a=b):=by
 have hd0:∀a r,as.drop st.k.toNat=a::r->as[st.k.toNat]?=some a:=λa r h=>by
  have:=congrArg List.head? h
  rwa [List.head?_drop]at this
 have hle:∀a r,as.drop st.k.toNat=a::r->∀i:Nat,st.k.toNat<=i->∀x,as[i]?=some x->a<=x:=λa r h i hi x hx=>by
  have e0:=hd0 a r h;rcases Nat.lt_or_eq_of_le hi with z|z
  ·obtain⟨l1,q1⟩:=List.getElem?_eq_some_iff.mp e0;obtain⟨l2,q2⟩:=List.getElem?_eq_some_iff.mp hx;rw[<-q1,<-q2];exact(List.pairwise_iff_getElem.mp A.so) _ _ l1 l2 z
  ·subst z;rw[e0]at hx;cases hx;exact Int.le_refl _
 have hno:as.drop st.k.toNat = []->∀i:Nat,st.k.toNat<=i->∀x,as[i]?=some x->False:=λh i hi x hx=>by
  have:=List.drop_eq_nil_iff.mp h;have:=(List.getElem?_eq_some_iff.mp hx).1;omega
 have hmem:∀a r,as.drop st.k.toNat=a::r->st.b<=a/\a<=800000:=λa r h=>⟨G.hi _ (Nat.le_refl _) _ (hd0 a r h),(A.le a (List.mem_of_mem_drop (h ▸ List.mem_cons_self))).2⟩
 unfold nxL at h
 cases hw:st.w with
 |nil=>
  cases hd:as.drop st.k.toNat with
  |nil=>rw[hw,hd]at h;cases h
  |cons a r=>
   rw[hw,hd]at h
   cases h;have m:=hmem _ r hd;exact⟨m.1,by omega,λe he=>by simp at he,hle _ r hd,.inr ⟨_,hd0 _ r hd,rfl⟩⟩
 |cons e w=>
  have eh:=zqn (hw ▸ G.so);have ee:=G.en e (hw ▸ List.mem_cons_self)
  cases hd:as.drop st.k.toNat with
  |nil=>
   rw[hw,hd]at h
   cases h;have ht:=o.t;refine⟨ee.1,by have:=ee.2;omega,eh,λi hi x hx=>(hno hd i hi x hx).elim,.inl ⟨e,List.mem_cons_self,rfl⟩⟩
  |cons a r=>
   rw[hw,hd]at h
   cases h;have m:=hmem _ r hd;refine⟨by have:=ee.1;omega,by omega,λx hx=>by have:=eh x hx;omega,λi hi x hx=>by have:=hle _ r hd i hi x hx;omega,?_⟩
   by_cases z:e.d<=a
   ·exact .inl ⟨e,List.mem_cons_self,by omega⟩
   ·exact .inr ⟨a,hd0 _ r hd,by omega⟩
theorem zeo(b:Int):∀l:List Int,l.Pairwise (· <= ·)->(∀x∈l,b<=x)->(∀i:Nat,i<l.count b->l[i]?=some b)/\∀i:Nat,l.count b<=i->∀x,l[i]?=some x->b<x
 |[],_,_=>⟨λi h=>by simp at h,λi _ x h=>by simp at h⟩
 |y::l,h,hb=>by
  rw[List.pairwise_cons]at h;obtain⟨q1,q2⟩:=zeo b l h.2 λx hx=>hb x (List.mem_cons_of_mem _ hx)
  by_cases z:y=b
  ·subst z;rw[List.count_cons_self];refine⟨λi hi=>?_,λi hi x hx=>?_⟩
   ·cases i with
    |zero=>rfl
    |succ i=>rw[List.getElem?_cons_succ];exact q1 i (by omega)
   ·cases i with
    |zero=>omega
    |succ i=>rw[List.getElem?_cons_succ]at hx;exact q2 i (by omega) x hx
  ·have hy:=hb y List.mem_cons_self
   have c0:l.count b=0:=by
    refine List.count_eq_zero.mpr λhm=>?_;have:=h.1 b hm;omega
   rw[List.count_cons,c0,if_neg (by simpa using z)];refine⟨λi hi=>by omega,λi _ x hx=>?_⟩
   cases i with
   |zero=>cases hx;omega
   |succ i=>
    rw[List.getElem?_cons_succ]at hx;exact q2 i (by omega) x hx
theorem jj{c:Cl}(o:c.Ok){as:List Int}{st:Sn}(A:Ask as)(G:Gd c as st){b:Int}(h:nxL st as=some b):
  (∀i:Nat,st.k.toNat<=i->i<st.k.toNat+as.count b->as[i]?=some b)/\(∀i:Nat,st.k.toNat+as.count b<=i->∀x,as[i]?=some x->b+1<=x)/\st.k.toNat+as.count b<=as.length:=by
 obtain⟨n1,_,_,n4,_⟩:=xt o A G h;have c1:(as.take st.k.toNat).count b=0:=by
  refine List.count_eq_zero.mpr λhm=>?_;obtain⟨i,hi⟩:=List.mem_iff_getElem?.mp hm;have hi':=(List.getElem?_eq_some_iff.mp hi).1;rw[List.length_take]at hi';rw[List.getElem?_take_of_lt (by omega)]at hi;have:=G.lo i (by omega) b hi;omega
 have e:as.count b=(as.drop st.k.toNat).count b:=by
  conv=>lhs;rw[<-List.take_append_drop st.k.toNat as]
  rw[List.count_append,c1,Nat.zero_add]
 obtain⟨q1,q2⟩:=zeo b (as.drop st.k.toNat) (A.so.sublist (List.drop_sublist _ _)) λx hx=>by
  obtain⟨i,hi⟩:=List.mem_iff_getElem?.mp hx;rw[List.getElem?_drop]at hi;exact n4 _ (by omega) x hi
 rw[<-e]at q1 q2;refine⟨λi h1 h2=>?_,λi h1 x hx=>?_,?_⟩
 ·have:=q1 (i-st.k.toNat) (by omega)
  rwa [List.getElem?_drop,show st.k.toNat+(i-st.k.toNat)=i by omega]at this
 ·have:=q2 (i-st.k.toNat) (by omega) x (by rwa [List.getElem?_drop,show st.k.toNat+(i-st.k.toNat)=i by omega]);omega
 ·have h1:=List.count_le_length (a:=b) (l:=as.drop st.k.toNat);rw[<-e,List.length_drop]at h1;have:=G.k1;omega
theorem xm{c:Cl}(o:c.Ok)(s:Sn)(snd:Bool)(n b t:Int):(yv c s snd n b t).2.n=n /\
  (((yv c s snd n b t).1.w=s.w/\(yv c s snd n b t).1.c=s.c/\∀d,(yv c s snd n b t).2.t ≠ .due d) \/
   ∃d,(yv c s snd n b t).2.t=.due d/\(yv c s snd n b t).1.w=s.w ++ [⟨d,n,b,t+1⟩]/\d=s.b+gp c.p.g ((t+1).toNat-1)/\s.b<d/\d<=b+c.p.t/\t+1≠c.p.n/\c.u.p<=s.c/\(yv c s snd n b t).1.c=s.c-c.u.p):=by
 unfold yv
 split
 ·exact⟨rfl,.inl ⟨rfl,rfl,λd h=>by cases h⟩⟩
 ·refine⟨rfl,?_⟩;unfold whL
  by_cases c1:t+1=c.p.n
  ·rw[if_pos c1];exact .inl ⟨rfl,rfl,λd h=>by cases h⟩
  ·rw[if_neg c1]
   by_cases c2:b+c.p.t<s.b+gp c.p.g ((t+1).toNat-1)
   ·rw[if_pos c2];exact .inl ⟨rfl,rfl,λd h=>by cases h⟩
   ·rw[if_neg c2]
    by_cases c3:s.c<c.u.p
    ·rw[if_pos c3];exact .inl ⟨rfl,rfl,λd h=>by cases h⟩
    ·rw[if_neg c3];have:=(zki o.p.g ((t+1).toNat-1)).1;exact .inr ⟨_,rfl,rfl,rfl,by omega,by omega,c1,by omega,rfl⟩
theorem zkl{st:Sn}{r:Tr}(h:r∈xa st):∃e∈st.w,e.d<=st.b/\r=⟨e.n,e.b,e.t⟩:=by
 have:=(yu Tr.of_l _).mem_iff.mp h;obtain⟨e,he,rfl⟩:=List.mem_map.mp this;have:=List.mem_filter.mp he;exact⟨e,this.1,of_decide_eq_true this.2,rfl⟩
theorem zqo(st:Sn):(xa st).length+(xc st).w.length=st.w.length:=by
 have e1:(xa st).length=(st.w.filter λe=>decide (e.d<=st.b)).length:=by
  unfold xa;rw[(yu Tr.of_l _).length_eq,List.length_map]
 have e2:(xc st).w=st.w.filter λe=>decide (st.b<e.d):=rfl;rw[e1,e2];generalize st.w=w
 induction w with
 |nil=>rfl
 |cons x w ih=>
  rw[List.filter_cons,List.filter_cons]
  by_cases z:x.d<=st.b
  ·rw[if_pos (decide_eq_true z),if_neg (by simpa using z),List.length_cons,List.length_cons];omega
  ·rw[if_neg (by simpa using z),if_pos (decide_eq_true (by omega)),List.length_cons,List.length_cons];omega
structure Md(c:Cl)(as:List Int)(b:Int)(K:Int)(rs:List Tr)(m:Nat)(s:Sn):Prop where
 ok:s.Ok c
 eb:s.b=b
 k0:0<=s.k
 k:s.k+m=K
 wl:(s.w.length:Int)+rs.length<=s.k
 rs:∀r∈rs,r.Ok c/\r.b<=800000/\0<=r.n/\r.n<s.k/\as[r.n.toNat]?=some r.b/\1<=r.t
 en:∀e∈s.w,b+1<=e.d/\e.d<=e.b+c.p.t/\e.b<=800000/\0<=e.n/\e.n<s.k/\as[e.n.toNat]?=some e.b
theorem zt7{c:Cl}(o:c.Ok){as:List Int}{b K:Int}{snd:Bool}{r:Tr}{rs:List Tr}{m:Nat}{s:Sn}(h:Md c as b K (r::rs) m s):Md c as b K rs m (yv c s snd r.n r.b r.t).1:=by
 obtain⟨r1,r2,r3,r4,r5,r6⟩:=h.rs r List.mem_cons_self;have tb:=vf c s snd r.n r.b r.t;have tl:=zao c s snd r.n r.b r.t;have wl:=h.wl;rw[List.length_cons]at wl;refine⟨zc5 o h.ok r1.1 r1.2,tb.1.trans h.eb,by rw[tb.2];exact h.k0,by rw[tb.2];exact h.k,by rw[tb.2];omega,λx hx=>by rw[tb.2];exact h.rs x (List.mem_cons_of_mem _ hx),λe he=>?_⟩;rw[tb.2];rcases (xm o s snd r.n r.b r.t).2 with⟨w1,_⟩ |⟨d,_,w1,_,d1,d2,_⟩
 ·rw[w1]at he;exact h.en e he
 ·rw[w1]at he;rcases List.mem_append.mp he with he|he
  ·exact h.en e he
  ·cases List.mem_singleton.mp he;have:=h.eb;exact⟨by simp only[];omega,d2,r2,r3,r4,r5⟩
theorem zt8{c:Cl}(o:c.Ok){as:List Int}{b K:Int}{snd:Bool}{m:Nat}{s:Sn}(h:Md c as b K [] (m+1) s)(hb:b<=800000)(ha:as[s.k.toNat]?=some b):Md c as b K [] m (yv c (yy c s) snd s.k s.b 0).1:=by
 have tb:=vf c (yy c s) snd s.k s.b 0;have tl:=zao c (yy c s) snd s.k s.b 0;have a2:(yy c s).k=s.k+1:=rfl;have a3:(yy c s).w=s.w:=rfl;have k0:=h.k0;have hk:=h.k;have wl:=h.wl;rw[List.length_nil]at wl;rw[a3]at tl;have n1:=o.p.n1;refine⟨zc5 o (zi6 o h.ok) (by decide) (by omega),tb.1.trans h.eb,by rw[tb.2,a2];omega,by rw[tb.2,a2];omega,by rw[tb.2,a2,List.length_nil];omega,λx hx=>(by cases hx),λe he=>?_⟩;rw[tb.2,a2];have old:∀e∈s.w,b+1<=e.d/\e.d<=e.b+c.p.t/\e.b<=800000/\0<=e.n/\e.n<s.k+1/\as[e.n.toNat]?=some e.b:=λe he=>by
  obtain⟨p1,p2,p3,p4,p5,p6⟩:=h.en e he;exact⟨p1,p2,p3,p4,by omega,p6⟩
 rcases (xm o (yy c s) snd s.k s.b 0).2 with⟨w1,_⟩ |⟨d,_,w1,_,d1,d2,_⟩
 ·rw[w1,a3]at he;exact old e he
 ·rw[w1,a3]at he;rcases List.mem_append.mp he with he|he
  ·exact old e he
  ·cases List.mem_singleton.mp he;have e0:=h.eb;have a1:(yy c s).b=s.b:=rfl;rw[a1]at d1;exact⟨by simp only[];omega,d2,by simp only[];omega,k0,by simp only[];omega,by simp only[];rw[e0];exact ha⟩
theorem v5{c:Cl}(o:c.Ok){as:List Int}(A:Ask as){sd:Int->Bool}{st:Sn}(G:Gd c as st){b:Int}(h:nxL st as=some b)(P:List Tr->Nat->Sn->List Ev->Prop)
  (h0:P (xa { st with b:=b }) (as.count b) (xc { st with b:=b }) [])
  (hd:∀r rs m s es,Md c as b (st.k+as.count b) (r::rs) m s->P (r::rs) m s es->P rs m (yv c s (sd b) r.n r.b r.t).1 (es ++ [(yv c s (sd b) r.n r.b r.t).2]))
  (hn:∀m s es,Md c as b (st.k+as.count b) [] (m+1) s->as[s.k.toNat]?=some b->P [] (m+1) s es->P [] m (yv c (yy c s) (sd b) s.k s.b 0).1 (es ++ [(yv c (yy c s) (sd b) s.k s.b 0).2])) :
  ∃s,Md c as b (st.k+as.count b) [] 0 s/\P [] 0 s (y8 c as sd st b).2/\(y8 c as sd st b).1 = { s with b:=b+1,w:=wc En.l En.of s.w }:=by
 obtain⟨n1,n2,n3,n4,_⟩:=xt o A G h;obtain⟨c1,c2,c3⟩:=jj o A G h;have k0:=G.k0;have hlen:=zqo { st with b:=b };have wl:=G.wl;obtain⟨s,q1,q2,q3⟩:=zop (c:=c) (snd:=sd b) (λrs m s es=>(m<=as.count b/\Md c as b (st.k+as.count b) rs m s)/\P rs m s es) { st with b:=b } (as.count b)
  ⟨⟨Nat.le_refl _,by
   refine⟨⟨?_,?_,λe he=>G.ok.w e (List.mem_filter.mp he).1,G.ok.c1,G.ok.c2,G.ok.g⟩,rfl,k0,rfl,?_,λr hr=>?_,λe he=>?_⟩
   ·show 0<=b;have:=G.ok.b1;omega
   ·show b<=900000;omega
   ·show((xc { st with b:=b }).w.length:Int)+(xa { st with b:=b }).length<=st.k;have hlen':(xa { st with b:=b }).length+(xc { st with b:=b }).w.length=st.w.length:=hlen;omega
   ·obtain⟨e,he,hb,rfl⟩:=zkl hr;have he':e∈st.w:=he;obtain⟨p1,p2,p3,p4,p5,p6⟩:=G.en e he';have ek:=G.ok.w e he';have:=ek.t1;exact⟨⟨by simp only[];omega,ek.t2⟩,p3,p4,p5,p6,ek.t1⟩
   ·obtain⟨he1,he2⟩:=List.mem_filter.mp he;have he1':e∈st.w:=he1;have he2':b<e.d:=of_decide_eq_true he2;obtain⟨p1,p2,p3,p4,p5,p6⟩:=G.en e he1';exact⟨by omega,p2,p3,p4,p5,p6⟩⟩,h0⟩
  (λr rs m s es _ p=>⟨⟨p.1.1,zt7 o p.1.2⟩,hd r rs m s es p.1.2 p.2⟩)
  (λm s es _ p=>by
   have hk:=p.1.2.k;have h1:=p.1.1;have h3:=p.1.2.k0;have ha:as[s.k.toNat]?=some b:=c1 _ (by omega) (by omega);have hb:=(A.le b (List.mem_of_getElem? ha)).2;exact⟨⟨by omega,zt8 o p.1.2 hb ha⟩,hn m s es p.1.2 ha p.2⟩)
 exact⟨s,q2.1.2,q2.2,q3⟩
theorem zaq{c:Cl}(o:c.Ok){as:List Int}(A:Ask as){sd:Int->Bool}{st:Sn}(G:Gd c as st){b:Int}(h:nxL st as=some b):Gd c as (y8 c as sd st b).1:=by
 obtain⟨n1,n2,n3,n4,_⟩:=xt o A G h;obtain⟨c1,c2,c3⟩:=jj o A G h;obtain⟨s,M,_,e⟩:=v5 o A (sd:=sd) G h (λ_ _ _ _=>True) trivial (λ_ _ _ _ _ _ _=>trivial) λ_ _ _ _ _ _=>trivial;rw[e];have pm:=yu En.of_l s.w;have k0:=G.k0;have hk:=M.k;have hwl:=M.wl;have b1:=M.ok.b1;rw[M.eb]at b1;rw[List.length_nil]at hwl;refine⟨⟨by simp only[];omega,by simp only[];omega,λx hx=>M.ok.w x (pm.mem_iff.mp hx),M.ok.c1,M.ok.c2,M.ok.g⟩,by simp only[];omega,M.k0,by simp only[];omega,?_,λx hx=>?_,zen En.of_l s.w,λi hi a ha=>?_,λi hi a ha=>?_⟩
 ·simp only[pm.length_eq];omega
 ·exact M.en x (pm.mem_iff.mp hx)
 ·simp only[]at hi ⊢;rcases Nat.lt_or_ge i st.k.toNat with z|z
  ·have:=G.lo i z a ha;omega
  ·have:=c1 i z (by omega);rw[ha]at this
   cases this;omega
 ·simp only[]at hi ⊢;exact c2 i (by omega) a ha
def wt(c:Cl)(t:Int):Nat:=(c.p.n-t).toNat
def phi(c:Cl)(as:List Int)(st:Sn):Nat:=(st.w.map λe=>wt c e.t).sum+(as.length-st.k.toNat) * c.p.n.toNat
theorem zqp(f:Int->Nat)(st:Sn):((xa st).map λr=>f r.t).sum+((xc st).w.map λe=>f e.t).sum=(st.w.map λe=>f e.t).sum:=by
 have e1:((xa st).map λr=>f r.t).sum=((st.w.filter λe=>decide (e.d<=st.b)).map λe=>f e.t).sum:=by
  have p:=((yu Tr.of_l ((st.w.filter λe=>decide (e.d<=st.b)).map λe=>(⟨e.n,e.b,e.t⟩:Tr))).map λr=>f r.t).sum_nat;rw[List.map_map]at p;exact p
 have e2:(xc st).w=st.w.filter λe=>decide (st.b<e.d):=rfl;rw[e1,e2];generalize st.w=w
 induction w with
 |nil=>rfl
 |cons x w ih=>
  rw[List.filter_cons,List.filter_cons]
  by_cases z:x.d<=st.b
  ·rw[if_pos (decide_eq_true z),if_neg (by simpa using z),List.map_cons,List.map_cons,List.sum_cons,List.sum_cons];omega
  ·rw[if_neg (by simpa using z),if_pos (decide_eq_true (by omega)),List.map_cons,List.map_cons,List.sum_cons,List.sum_cons];omega
theorem v6{c:Cl}(o:c.Ok){as:List Int}(A:Ask as){sd:Int->Bool}{st:Sn}(G:Gd c as st){b:Int}(h:nxL st as=some b):
  (y8 c as sd st b).2.length+phi c as (y8 c as sd st b).1<=phi c as st/\1<=(y8 c as sd st b).2.length:=by
 obtain⟨n1,n2,n3,n4,n5⟩:=xt o A G h;obtain⟨c1,c2,c3⟩:=jj o A G h;have k0:=G.k0;have ds:((xa { st with b:=b }).map λr=>wt c r.t).sum+((xc { st with b:=b }).w.map λe=>wt c e.t).sum=(st.w.map λe=>wt c e.t).sum:=zqp (wt c) { st with b:=b };have pn1:=o.p.n1;obtain⟨s,M,⟨p1,p2⟩,e⟩:=v5 o A (sd:=sd) G h (λrs m s es=>es.length+((s.w.map λe=>wt c e.t).sum+(rs.map λr=>wt c r.t).sum+(as.length-s.k.toNat) * c.p.n.toNat)<=phi c as st/\es.length+rs.length+m=(xa { st with b:=b }).length+as.count b)
  ⟨by
   have e1:(xc { st with b:=b }).k=st.k:=rfl;rw[e1,phi,List.length_nil];omega,by simp⟩
  (λr rs m s es M p=>by
   obtain⟨r1,_,_,_,_,r6⟩:=M.rs r List.mem_cons_self;have tb:=vf c s (sd b) r.n r.b r.t;have w1:wt c (r.t+1)+1=wt c r.t:=by unfold wt;have:=r1.2;omega
   obtain⟨p1,p2⟩:=p;rw[List.map_cons,List.sum_cons]at p1;rw[List.length_cons]at p2;rw[tb.2];refine⟨?_,by simp;omega⟩;rcases (xm o s (sd b) r.n r.b r.t).2 with⟨w2,_⟩ |⟨d,_,w2,_⟩
   ·rw[w2];simp;omega
   ·rw[w2];simp;omega)
  (λm s es M ha p=>by
   have tb:=vf c (yy c s) (sd b) s.k s.b 0;have a2:(yy c s).k=s.k+1:=rfl;have a3:(yy c s).w=s.w:=rfl;have hlt:=(List.getElem?_eq_some_iff.mp ha).1;have sk:=M.k0;obtain⟨p1,p2⟩:=p;rw[tb.2,a2];obtain⟨j,hj⟩:∃j,as.length-s.k.toNat=j+1:=⟨as.length-s.k.toNat-1,by omega⟩
   have hj2:as.length-(s.k+1).toNat=j:=by omega
   rw[hj,Nat.add_mul,Nat.one_mul]at p1;rw[hj2];have w1:wt c (0+1)+1=c.p.n.toNat:=by unfold wt;omega
   refine⟨?_,by simp at p2 ⊢;omega⟩;simp only[List.map_nil,List.sum_nil]at p1 ⊢;rcases (xm o (yy c s) (sd b) s.k s.b 0).2 with⟨w2,_⟩ |⟨d,_,w2,_⟩
   ·rw[w2,a3];simp;omega
   ·rw[w2,a3];simp at w1 ⊢;omega)
 have pm:=((yu En.of_l s.w).map λe=>wt c e.t).sum_nat;refine⟨?_,?_⟩
 ·rw[e];generalize phi c as st=N at p1;simp only[phi];rw[pm];simp only[List.map_nil,List.sum_nil]at p1;omega
 ·rw[List.length_nil]at p2
  have:1<=(xa { st with b:=b }).length+as.count b:=by
   rcases n5 with⟨x,hx,xd⟩ |⟨a,ha,rfl⟩
   ·have:(⟨x.n,x.b,x.t⟩:Tr)∈xa { st with b:=b }:=by
     refine(yu Tr.of_l _).mem_iff.mpr (List.mem_map.mpr ⟨x,List.mem_filter.mpr ⟨hx,decide_eq_true ?_⟩,rfl⟩);show x.d<=b;omega
    have:=List.length_pos_of_mem this;omega
   ·have:=List.count_pos_iff.mpr (List.mem_of_getElem? ha);omega
  omega
theorem zjc{c:Cl}(o:c.Ok){as:List Int}(A:Ask as){sd:Int->Bool}(P:Sn->List E4->Prop)
  (hs:∀st es b,Gd c as st->P st es->nxL st as=some b->P (y8 c as sd st b).1 (es++(y8 c as sd st b).2.map (E4.mk b))) :
  ∀f st es,Gd c as st->P st es->Gd c as (evF c as sd f st es).1/\P (evF c as sd f st es).1 (evF c as sd f st es).2
 |0,st,es,G,p=>⟨G,p⟩
 |f+1,st,es,G,p=>by
  simp only[evF]
  cases e:nxL st as with
  |none=>exact⟨G,p⟩
  |some b=>exact zjc o A P hs f _ _ (zaq o A G e) (hs st es b G p e)
theorem zjd{c:Cl}(o:c.Ok){as:List Int}(A:Ask as){sd:Int->Bool}:∀f st es,Gd c as st->phi c as st<=f->nxL (evF c as sd f st es).1 as=none
 |0,st,es,G,p=>by
  simp only[evF]
  cases e:nxL st as with
  |none=>rfl
  |some b=>
   have:=v6 o A (sd:=sd) G e;omega
 |f+1,st,es,G,p=>by
  simp only[evF]
  cases e:nxL st as with
  |none=>exact e
  |some b=>
   have:=v6 o A (sd:=sd) G e;exact zjd o A f _ _ (zaq o A G e) (by omega)
theorem wz{c:Cl}(o:c.Ok){as:List Int}(A:Ask as):Gd c as (x0 c):=by
 have:=o.u.f1;have:=o.u.f2;have:=o.u.c2;have:=o.g.f1;have h0:∀e∈(x0 c).w,False:=λe he=>by cases he
 have e1:(x0 c).b=0:=rfl;have e2:(x0 c).k=0:=rfl;have e3:(x0 c).w = []:=rfl;have e4:(x0 c).c=c.u.f:=rfl;refine⟨⟨by rw[e1];decide,by rw[e1];decide,λe he=>(h0 e he).elim,by omega,by omega,⟨Int.le_refl _,by omega⟩⟩,by rw[e1];decide,by rw[e2];decide,by omega,by rw[e3,e2];decide,λe he=>(h0 e he).elim,List.Pairwise.nil,λi hi=>?_,λi _ a ha=>(A.le a (List.mem_of_getElem? ha)).1⟩;rw[e2]at hi;simp at hi
def zbl(c:Cl)(as:List Int)(sd:Int->Bool):Sn×List E4:=evF c as sd (as.length * c.p.n.toNat) (x0 c) []
theorem zft{c:Cl}(o:c.Ok){as:List Int}(A:Ask as){sd:Int->Bool}(P:Sn->List E4->Prop)(h0:P (x0 c) [])
  (hs:∀st es b,Gd c as st->P st es->nxL st as=some b->P (y8 c as sd st b).1 (es++(y8 c as sd st b).2.map (E4.mk b))) :
  ∃st,Gd c as st/\P st (zbl c as sd).2/\st.w = []/\st.k=as.length:=by
 obtain⟨G,p⟩:=zjc o A P hs (as.length * c.p.n.toNat) (x0 c) [] (wz o A) h0;obtain⟨w,d⟩:=zb8 (zjd o A (sd:=sd) (as.length * c.p.n.toNat) (x0 c) [] (wz o A) (by simp[phi,x0]));have:=List.drop_eq_nil_iff.mp d;have:=G.k1;have:=G.k0;exact⟨_,G,p,w,by omega⟩
theorem zkm{c:Cl}(o:c.Ok){as:List Int}(A:Ask as){sd:Int->Bool}:(zbl c as sd).2.length<=as.length * c.p.n.toNat:=by
 obtain⟨st,_,p,_,_⟩:=zft o A (sd:=sd) (λst es=>es.length+phi c as st<=as.length * c.p.n.toNat) (by simp[phi,x0]) λst es b G p h=>by
  have:=(v6 o A (sd:=sd) G h).1;rw[List.length_append,List.length_map];omega
 omega
end
section
variable {P:Program}{w:World}{K:PySem.W.Frag}{mg:Str->Option Value}{base:Heap}{f:Addr}{fd:FuncData}
theorem zqq{c:Cl}(o:c.Ok){as:List Int}{st:Sn}(A:Ask as)(G:Gd c as st){Q:Ret->Prop}(q0:nxL st as=none->Q (.val .none))(q1:∀b,nxL st as=some b->Q (.val (.int b))):
  0<=st.k/\(zap st as = []->Q (.val .none))/\∀m∈zap st as,(∀a∈zap st as,m<=a)->Q (.val (.int m)):=by
 refine⟨G.k0,λh=>q0 ?_,λm hm hle=>q1 m ?_⟩
 ·unfold zap at h;unfold nxL
  cases hw:st.w with
  |cons e w=>rw[hw]at h;cases h
  |nil=>
   cases hd:as.drop st.k.toNat with
   |cons a r=>rw[hw,hd]at h;cases h
   |nil=>rfl
 ·unfold zap at hm hle;unfold nxL
  cases hw:st.w with
  |nil=>
   cases hd:as.drop st.k.toNat with
   |nil=>rw[hw,hd]at hm;cases hm
   |cons a r=>rw[hw,hd]at hm;simp at hm;simp[hm]
  |cons e w=>
   cases hd:as.drop st.k.toNat with
   |nil=>rw[hw,hd]at hm;simp at hm;simp[hm]
   |cons a r=>
    rw[hw,hd]at hm hle;simp at hm hle;simp only[List.head?_cons];congr 1;omega
theorem zc9{c:Cl}(o:c.Ok){as:List Int}{st:Sn}(A:Ask as)(G:Gd c as st){Q:Ret->Prop}(q0:nxL st as=none->Q (.val .none))(q1:∀b,nxL st as=some b->Q (.val (.int b))):
  ku [.val st.D,.val (.tuple (as.map PyData.int))] Q:=⟨st,as,rfl,zqq o A G q0 q1⟩
theorem zhf(ks:List (Key×D))(es:List E4)(x:E4):v4 ks (es ++ [x])=zaj (v4 ks es) (Sum.inl x.e.n) (zoo x):=by
 unfold v4;rw[List.foldl_append];rfl
theorem zlz{c:Cl}(o:c.Ok){as:List Int}(A:Ask as){sd:Int->Bool}:∀i:Nat,i<as.length->(xr (v4 [] (zbl c as sd).2) (Sum.inl (i:Int))).isSome=true:=by
 obtain⟨st,G,p,_,hk⟩:=zft o A (sd:=sd) (λst es=>∀i:Nat,i<st.k.toNat->(xr (v4 [] es) (Sum.inl (i:Int))).isSome=true) (λi hi=>by simp[x0]at hi) λst es b G p h=>by
  obtain⟨s,M,q,e⟩:=v5 o A (sd:=sd) G h (λrs m s es'=>∀i:Nat,i<s.k.toNat->(xr (v4 [] (es++es'.map (E4.mk b))) (Sum.inl (i:Int))).isSome=true)
   (λi hi=>by rw[List.map_nil,List.append_nil];exact p i hi)
   (λr rs m s es' M q i hi=>by
    rw[(vf c s (sd b) r.n r.b r.t).2]at hi;rw[List.map_append,<-List.append_assoc,List.map_singleton,zhf,zhb]
    split
    ·rfl
    ·exact q i hi)
   (λm s es' M ha q i hi=>by
    have a2:(yy c s).k=s.k+1:=rfl;rw[(vf c (yy c s) (sd b) s.k s.b 0).2,a2]at hi;have k0:=M.k0;rw[List.map_append,<-List.append_assoc,List.map_singleton,zhf,zhb,(xm o (yy c s) (sd b) s.k s.b 0).1]
    split
    ·rfl
    ·next z=>exact q i (by have:¬ (i:Int)=s.k:=λy=>z (by rw[y]);omega))
  rw[e];exact q
 intro i hi;exact p i (by omega)
def nbD:Option Int->D
 |none=>.none
 |some b=>.int b
theorem zar{c:Cl}{as:List Int}{sd:Int->Bool}{st:Sn}{es:List E4}(h:nxL st as=none):∀m,evF c as sd m st es=(st,es)
 |0=>rfl
 |m+1=>by simp only[evF,h]
def zas:DSp:=λws Q=>∃(c:Cl) (as:List Int) (s:List (Int×Int)),ws = [.val c.D,.val (.tuple (as.map PyData.int)),.val (.tuple (s.map pD))]/\c.Ok/\Ask as/\s.length<=10000/\Q (.val (.tuple ((zbl c as λb=>!w6 s b).2.map E4.D)))
theorem zfu(B:Blt mg)(F:Fun K "events_of" "events_of" kh f fd)(C_silent_at:Cal P w K mg base 1 "silent_at" ["story", "beat"] (ya K zan))(C_first_of:Cal P w K mg base 1 "first_of" ["caller"] (ya K kr))(C_stepped:Cal P w K mg base 5 "stepped" ["caller", "standing", "sound", "many"] (ya K h7))(C_next_try:Cal P w K mg base 1 "next_try" ["standing", "askings"] (ya K ku)):FnOk P w K mg base CX0 6 f fd ["caller", "askings", "story"] (ya K zas):=by
 refine F.dok sc_events_of (λws Q h=>?_) (λcdv A outer s H ws Q E hr h=>?_)
 ·obtain⟨c,as,s,rfl,_⟩:=h;rfl
 obtain⟨c,as,s,rfl,o,A,hs,q⟩:=h;refine⟨_,(zd (yo (i:=3) sc_events_of.nd rfl (Or.inl rfl) (zh C_first_of hr rfl (zm 0 zo))) (zd (zac (i:=4) sc_events_of.nd rfl (Or.inl rfl) (yz zn)) (zd (yo (i:=5) sc_events_of.nd rfl (Or.inr rfl) (zh C_next_try hr rfl (zm 3 (zm 1 zo)))) (zd (zgi PassesOwn.never (yk zs4 (zb 5) (DE.dv zhz) (yg _)) (zd (yo (i:=6) sc_events_of.nd rfl (Or.inl rfl) (zh4 (zh C_silent_at hr rfl (zm 2 (zm 5 zo))))) (zd (y3 (zh C_stepped hr rfl (zm 0 (zq (z0 yj (DE.dv (zw (za (zi 5) zn))) (DE.dv (wu (zb 3) (xw zc) ja))) (zm 6 (zq (zlr (zb 1) (zi 5)) zo))))) (yq (n:=2) rfl (ze (zg (i:=3) sc_events_of.nd rfl (Or.inl rfl)) (ze (zg (i:=7) sc_events_of.nd rfl (Or.inl rfl)) yh)))) (zd (zec 4 (ql rfl (N':=["number", "word", "what", "beat"]) (capt:=["beat"]) (k:=3) (js:=[5]) ⟨rfl,by decide,rfl,by decide,(.cons rfl .nil),rfl,(.cons rfl (Or.inl rfl) rfl (Or.inl rfl) .nil),rfl,by decide⟩ (xx (zb 7)) (λ_ _ _ _=>(yq (n:=3) rfl (ze (zg (i:=0) (show List.Nodup (["number", "word", "what", "beat"]:List Str) by decide +kernel) rfl (Or.inl rfl) (Or.inr rfl)) (ze (zg (i:=1) (show List.Nodup (["number", "word", "what", "beat"]:List Str) by decide +kernel) rfl (Or.inl rfl) (Or.inr rfl)) (ze (zg (i:=2) (show List.Nodup (["number", "word", "what", "beat"]:List Str) by decide +kernel) rfl (Or.inl rfl) (Or.inr rfl)) yh))))) (λ_ _ _ _=>wg) (λ_ _ _ _=>(zw (za (zi 3) (za (zi 0) (za (zi 1) (za (zi 2) zn)))))))) (zj (yo (i:=5) sc_events_of.nd rfl (Or.inr rfl) (zh C_next_try hr rfl (zm 3 (zm 1 zo))))))))) (zj (zr (xj va rfl B.tupleT boot_tuple (zt (zb 4) z9)))))))),?_⟩;walk_at "ds";refine⟨c,rfl,?_⟩;have n2:=o.p.n2;have n1:=o.p.n1;have ln:=A.ln;have hN:as.length * c.p.n.toNat<=20000:=Nat.le_trans (Nat.mul_le_mul ln (show c.p.n.toNat<=200 by omega)) (by decide);refine zc9 o A (wz o A) (λh=>?_) (λb h=>?_)
 all_goals
  refine zd5 (λm σ=>∃(st:Sn) (es:List E4) (u6 u7:Option W),σ = [some (.val c.D),some (.val (.tuple (as.map PyData.int))),some (.val (.tuple (s.map pD))),some (.val st.D),some (.own (.lst (es.map E4.D))),some (.val (nbD (nxL st as))),u6,u7]/\Gd c as st/\phi c as st<=m/\es.length+phi c as st<=20000/\evF c as (λb=>!w6 s b) m st es=zbl c as λb=>!w6 s b) (as.length * c.p.n.toNat) ⟨x0 c,[],none,none,(by rw[h];rfl),wz o A,by simp[phi,x0],by simpa[phi,x0]using hN,rfl⟩ ?_;clear h;rintro m σ N ⟨st,es,u6,u7,rfl,G,hp,hl,he⟩ k
  cases e:nxL st as with
  |none=>
   simp only[nbD];walk_at "ds";rw[zar e]at he;rw[<-he]at q;exact q
  |some b=>
   simp only[nbD,Sn.D];walk_at "ds";refine⟨s,b,rfl,hs,?_⟩;walk_at "ds";obtain⟨n1',n2',_⟩:=xt o A G e;obtain⟨_,_,c3⟩:=jj o A G e;have k0:=G.k0;have k1:=G.k1;have wl:=G.wl;have b1:=G.ok.b1;have pb:=v6 o A (sd:=λb=>!w6 s b) G e;have gb:=zaq o A (sd:=λb=>!w6 s b) G e;obtain⟨m,rfl⟩:∃j,m=j+1:=⟨m-1,by omega⟩
   simp only[evF,e]at he;rw[zbr _ (by decide),show(1:Int).toNat=1 from rfl];simp only[List.drop_succ_cons,List.drop_zero];refine⟨by simp,as,rfl,c,{ st with b:=b },!w6 s b,as.count b,rfl,o,⟨by simp only[];omega,by simp only[];omega,G.ok.w,G.ok.c1,G.ok.c2,G.ok.g⟩,by simp only[];omega,by omega,⟨k0,by simp only[];omega⟩,?_⟩;have eb:zc4 c { st with b:=b } (!w6 s b) (as.count b)=y8 c as (λb=>!w6 s b) st b:=rfl;rw[eb];generalize y8 c as (λb=>!w6 s b) st b=r at pb gb he;obtain⟨st',ev⟩:=r;simp only[]at pb gb he;simp only[stD];walk_at "ds";rw[List.length_map];refine⟨by omega,xq Ev.D (λx=>E4.D ⟨b,x⟩) (λx _ kk hk=>?_) ?_⟩
   ·simp only[Ev.D];walk_at "ds";exact hk
   ·have em:es.map E4.D++ev.map (λx=>E4.D ⟨b,x⟩)=(es++ev.map (E4.mk b)).map E4.D:=by rw[List.map_append,List.map_map];rfl
    rw[em,List.length_map,List.length_map];have fin:∀d,d=nbD (nxL st' as)->N [some (.val c.D),some (.val (.tuple (as.map PyData.int))),some (.val (.tuple (s.map pD))),some (.val st'.D),some (.own (.lst ((es++ev.map (E4.mk b)).map E4.D))),some (.val d),some (.val (.bool !w6 s b)),some (.val (.tuple (ev.map Ev.D)))]:=λd hd=>k m _ (by omega) ⟨st',es++ev.map (E4.mk b),some (.val (.bool !w6 s b)),some (.val (.tuple (ev.map Ev.D))),by rw[hd],gb,by omega,by rw[List.length_append,List.length_map];omega,he⟩;refine⟨by omega,zc9 o A gb (λh=>fin _ ?_) λb' h=>fin _ ?_⟩
    ·rw[h];rfl
    ·rw[h];rfl
def zwi(c:Cl)(as:List Int)(sd:Int->Bool):List D:=(List.range as.length).map λi:Nat=>(xr (v4 [] (zbl c as sd).2) (Sum.inl (i:Int))).getD .none
def zkn:DSp:=λws Q=>∃(c:Cl) (as:List Int) (s:List (Int×Int)),ws = [.val c.D,.val (.tuple (as.map PyData.int)),.val (.tuple (s.map pD))]/\c.Ok/\Ask as/\s.length<=10000/\Q (.val (.tuple [.tuple ((zbl c as λb=>!w6 s b).2.map E4.D),.tuple (zwi c as λb=>!w6 s b)]))
theorem zqr(B:Blt mg)(F:Fun K "gone" "gone" zi4 f fd)(C_events_of:Cal P w K mg base 6 "events_of" ["caller", "askings", "story"] (ya K zas))(C_ends_of:Cal P w K mg base 1 "ends_of" ["events", "many"] (ya K zc8)):FnOk P w K mg base CX0 7 f fd ["caller", "askings", "story"] (ya K zkn):=by
 refine F.dok sc_gone (λws Q h=>?_) (λcdv A outer s H ws Q E hr h=>?_)
 ·obtain⟨c,as,s,rfl,_⟩:=h;rfl
 obtain⟨c,as,s,rfl,o,A,hs,q⟩:=h;refine⟨_,(zd (yo (i:=3) sc_gone.nd rfl (Or.inl rfl) (zh C_events_of hr rfl (zm 0 (zm 1 (zm 2 zo))))) (zj (zr (zw (za (zi 3) (za (zh C_ends_of hr rfl (zm 3 (zq (yt zab rfl B.len PySem.boot_len (zt (zb 1) z9)) zo))) zn)))))),?_⟩;walk_at "ds";refine⟨c,as,s,rfl,o,A,hs,?_⟩;walk_at "ds";rw[List.length_map];have n2:=o.p.n2;have ln:=A.ln;have hN:as.length * c.p.n.toNat<=20000:=Nat.le_trans (Nat.mul_le_mul ln (show c.p.n.toNat<=200 by omega)) (by decide);have rl:=zkm o A (sd:=λb=>!w6 s b);refine⟨_,as.length,rfl,by omega,by omega,zlz o A,?_⟩;walk_at "ds";exact q
end
section
variable {P:Program}{w:World}{K:PySem.W.Frag}{mg:Str->Option Value}{base:Heap}{f:Addr}{fd:FuncData}
def ju:DSp:=λws Q=>ws = [.pen]/\∀u:Ps,u.Ok->Q (.val u.D)
theorem zdo(B:Blt mg)(F:Fun K "_law_purse" "_law_purse" qj f fd)(C__law_draw:Cal P w K mg base 2 "_law_draw" ["_law_pen", "_law_many"] (ya K yx)):FnOk P w K mg base CX0 3 f fd ["_law_pen"] (ya K ju):=by
 refine F.dok sc__law_purse (λws Q h=>?_) (λcdv A outer s H ws Q E hr h=>?_)
 ·obtain⟨rfl,_⟩:=h;rfl
 obtain⟨rfl,q⟩:=h;refine⟨_,(zd (zpr (i:=1) (j:=2) (k:=3) rfl sc__law_purse.nd rfl rfl rfl (by decide) (by decide) (by decide) rfl rfl rfl (za (zh C__law_draw hr rfl (zm 0 (zq zc zo yf))) (za (zh C__law_draw hr rfl (zm 0 (zq zc zo yf))) (za (zh C__law_draw hr rfl (zm 0 (zq zc zo yf))) zn))) rfl) (zd (yo (i:=4) sc__law_purse.nd rfl (Or.inl rfl) (yd (DE.dv (DF.de (yz (za zc (za (z0 yj (DE.dv zc) (DE.dv (zh C__law_draw hr rfl (zm 0 (zq zc zo yf))))) (za (z0 yj (DE.dv zc) (DE.dv (zh C__law_draw hr rfl (zm 0 (zq zc zo yf))))) zn)) yf)))) (zi 1) (λ_ _=>rfl))) (zd (yo (i:=5) sc__law_purse.nd rfl (Or.inl rfl) (yd (DE.dv (DF.de (yz (za zc (za (zh C__law_draw hr rfl (zm 0 (zq zc zo yf))) (za (zi 4) (za (zh C__law_draw hr rfl (zm 0 (zq zc zo yf))) zn))) yf)))) (zi 2) (λ_ _=>rfl))) (zd (yo (i:=6) sc__law_purse.nd rfl (Or.inl rfl) (yd (DE.dv (DF.de (yz (za (zh C__law_draw hr rfl (zm 0 (zq zc zo yf))) (za (zh C__law_draw hr rfl (zm 0 (zq zc zo yf))) (za zc (za (zi 4) zn) yf)))))) (zi 3) (λ_ _=>rfl))) (zj (zr (zw (za (zi 5) (za (zi 4) (za (zi 6) (za (yd (DE.dv (DF.de (yz (za zc (za (zi 6) (za (zh C__law_draw hr rfl (zm 0 (zq (z0 yj (zb 6) (DE.dv zc)) zo))) zn)) yf)))) (zh C__law_draw hr rfl (zm 0 (zq zc zo yf))) (λ_ _=>rfl)) zn))))))))))),?_⟩;walk_at "ds";refine yn (by first|decide|omega) (by first|decide|omega) λa la ha=>?_;walk_at "ds";refine yn (by first|decide|omega) (by first|decide|omega) λb lb hb=>?_;walk_at "ds";refine yn (by first|decide|omega) (by first|decide|omega) λc lc hc=>?_;walk_at "ds";refine yn (by first|decide|omega) (by first|decide|omega) λd ld hd=>?_;walk_at "ds";refine yn (by first|decide|omega) (by first|decide|omega) λe le he=>?_;walk_at "ds";refine qm (ns:=[1,1+d,1+e]) (lo:=1) (hi:=1000) (by omega) (by simp only[List.length_cons,List.length_nil];omega) (by intro z hz;simp only[List.mem_cons,List.not_mem_nil,or_false]at hz;omega) λpr lpr hpr=>?_;walk_at "ds";refine yn (by first|decide|omega) (by first|decide|omega) λg lg hg=>?_;walk_at "ds";refine yn (by first|decide|omega) (by first|decide|omega) λi li hi=>?_
 walk_at "ds";refine qm (ns:=[0,g,pr,i]) (lo:=0) (hi:=1000) (by omega) (by simp only[List.length_cons,List.length_nil];omega) (by intro z hz;simp only[List.mem_cons,List.not_mem_nil,or_false]at hz;omega) λpt lpt hpt=>?_;walk_at "ds";refine yn (by first|decide|omega) (by first|decide|omega) λj lj hj=>?_;walk_at "ds";refine yn (by first|decide|omega) (by first|decide|omega) λl ll hl=>?_;walk_at "ds";refine qm (ns:=[j,l,10000,pr]) (lo:=0) (hi:=10000) (by omega) (by simp only[List.length_cons,List.length_nil];omega) (by intro z hz;simp only[List.mem_cons,List.not_mem_nil,or_false]at hz;omega) λcp lcp hcp=>?_;walk_at "ds";refine yn (by first|decide|omega) (by first|decide|omega) λm lm hm=>?_;walk_at "ds";refine yn (by first|decide|omega) (by first|decide|omega) λn ln hn=>?_;walk_at "ds";refine qm (ns:=[0,cp,m]) (lo:=0) (hi:=cp) (by omega) (by simp only[List.length_cons,List.length_nil];omega) (by intro z hz;simp only[List.mem_cons,List.not_mem_nil,or_false]at hz;omega) λfi lfi hfi=>?_;walk_at "ds";exact q ⟨pt,pr,cp,fi⟩ ⟨by simp only[];omega,by simp only[];omega,by simp only[];omega,by simp only[];omega,by simp only[];omega,by simp only[];omega,by simp only[];omega,by simp only[];omega⟩
def zat:DSp:=λws Q=>ws = [.pen]/\∀g:Gt,g.Ok->Q (.val g.D)
theorem zfv(B:Blt mg)(F:Fun K "_law_gate" "_law_gate" kl f fd)(C__law_draw:Cal P w K mg base 2 "_law_draw" ["_law_pen", "_law_many"] (ya K yx)):FnOk P w K mg base CX0 3 f fd ["_law_pen"] (ya K zat):=by
 refine F.dok sc__law_gate (λws Q h=>?_) (λcdv A outer s H ws Q E hr h=>?_)
 ·obtain⟨rfl,_⟩:=h;rfl
 obtain⟨rfl,q⟩:=h;refine⟨_,(zd (zfa (i:=1) (j:=2) rfl sc__law_gate.nd rfl rfl (by decide) rfl rfl (za (zh C__law_draw hr rfl (zm 0 (zq zc zo yf))) (za (z0 yj (DE.dv zc) (DE.dv (zh C__law_draw hr rfl (zm 0 (zq zc zo yf))))) zn)) rfl) (zd (yo (i:=3) sc__law_gate.nd rfl (Or.inl rfl) (yd (DE.dv (DF.de (yz (za (z0 yj (DE.dv zc) (DE.dv (zh C__law_draw hr rfl (zm 0 (zq zc zo yf))))) (za zc (za zc zn yf) yf))))) (zi 1) (λ_ _=>rfl))) (zd (yo (i:=4) sc__law_gate.nd rfl (Or.inl rfl) (z0 yj (zb 2) (DE.dv (yd (DE.dv (DF.de (yz (za zc (za (zh C__law_draw hr rfl (zm 0 (zq zc zo yf))) (za (z0 zd2 (DE.dv zc) (zb 2)) zn)) yf)))) (zh C__law_draw hr rfl (zm 0 (zq zc zo yf))) (λ_ _=>rfl))))) (zj (zr (zw (za (zi 3) (za (zi 2) (za (z0 yj (DE.dv zc) (DE.dv (zh C__law_draw hr rfl (zm 0 (zq zc zo yf))))) (za (zi 4) (za (z0 yj (DE.dv zc) (DE.dv (zh C__law_draw hr rfl (zm 0 (zq zc zo yf))))) zn))))))))))),?_⟩;walk_at "ds";refine yn (by first|decide|omega) (by first|decide|omega) λa la ha=>?_;walk_at "ds";refine yn (by first|decide|omega) (by first|decide|omega) λb lb hb=>?_;walk_at "ds";refine yn (by first|decide|omega) (by first|decide|omega) λc lc hc=>?_;walk_at "ds";refine qm (ns:=[1+c,20,1]) (lo:=1) (hi:=20) (by omega) (by simp only[List.length_cons,List.length_nil];omega) (by intro z hz;simp only[List.mem_cons,List.not_mem_nil,or_false]at hz;omega) λf lf hf=>?_;walk_at "ds";refine yn (by first|decide|omega) (by first|decide|omega) λd ld hd=>?_;walk_at "ds";refine yn (by first|decide|omega) (by first|decide|omega) λe le he=>?_;walk_at "ds";refine qm (ns:=[0,d,1000-(1+b)]) (lo:=0) (hi:=1000-(1+b)) (by omega) (by simp only[List.length_cons,List.length_nil];omega) (by intro z hz;simp only[List.mem_cons,List.not_mem_nil,or_false]at hz;omega) λm lm hm=>?_;walk_at "ds";refine yn (by first|decide|omega) (by first|decide|omega) λt lt ht=>?_;walk_at "ds";refine yn (by first|decide|omega) (by first|decide|omega) λn ln hn=>?_;walk_at "ds";exact q ⟨f,1+b,1+t,1+b+m,1+n⟩ ⟨by simp only[];omega,by simp only[];omega,by simp only[];omega,by simp only[];omega,by simp only[];omega,by simp only[];omega,by simp only[];omega,by simp only[];omega,by simp only[];omega⟩
def kw:DSp:=λws Q=>ws = [.pen]/\∀c:Cl,c.Ok->c.p.n<=12->Q (.val c.D)
theorem zda(B:Blt mg)(F:Fun K "_law_caller" "_law_caller" vn f fd)(C__law_draw:Cal P w K mg base 2 "_law_draw" ["_law_pen", "_law_many"] (ya K yx))(C__law_purse:Cal P w K mg base 3 "_law_purse" ["_law_pen"] (ya K ju))(C__law_gate:Cal P w K mg base 3 "_law_gate" ["_law_pen"] (ya K zat)):FnOk P w K mg base CX0 4 f fd ["_law_pen"] (ya K kw):=by
 refine F.dok sc__law_caller (λws Q h=>?_) (λcdv A outer s H ws Q E hr h=>?_)
 ·obtain⟨rfl,_⟩:=h;rfl
 obtain⟨rfl,q⟩:=h;refine⟨_,(zd (zfa (i:=1) (j:=2) rfl sc__law_caller.nd rfl rfl (by decide) rfl rfl (za (zh C__law_draw hr rfl (zm 0 (zq zc zo yf))) (za (zh C__law_draw hr rfl (zm 0 (zq zc zo yf))) zn)) rfl) (zd (yo (i:=3) sc__law_caller.nd rfl (Or.inl rfl) (zw (za (z0 yj (DE.dv zc) (DE.dv (zh C__law_draw hr rfl (zm 0 (zq zc zo yf))))) (za (z0 yj (DE.dv zc) (DE.dv (zh C__law_draw hr rfl (zm 0 (zq zc zo yf))))) (za (zh C__law_draw hr rfl (zm 0 (zq zc zo yf))) (za (z0 yj (DE.dv zc) (DE.dv (zh C__law_draw hr rfl (zm 0 (zq zc zo yf))))) zn)))))) (zd (yo (i:=4) sc__law_caller.nd rfl (Or.inl rfl) (yd (DE.dv (DF.de (yz (za zc (za (z0 yj (DE.dv zc) (DE.dv (zh C__law_draw hr rfl (zm 0 (zq zc zo yf))))) (za (z0 yj (DE.dv zc) (DE.dv (zh C__law_draw hr rfl (zm 0 (zq zc zo yf))))) (za zc (za zc zn yf) yf))) yf)))) (zi 1) (λ_ _=>rfl))) (zd (yo (i:=5) sc__law_caller.nd rfl (Or.inl rfl) (yd (DE.dv (DF.de (yz (za zc (za (zh C__law_draw hr rfl (zm 0 (zq zc zo yf))) (za (zh C__law_draw hr rfl (zm 0 (zq zc zo yf))) (za (z0 yj (DE.dv zc) (DE.dv (zh C__law_draw hr rfl (zm 0 (zq zc zo yf))))) zn))) yf)))) (zi 2) (λ_ _=>rfl))) (zj (zr (zw (za (zw (za (zi 3) (za (zi 4) (za (zi 5) zn)))) (za (zh C__law_purse hr rfl (zm 0 zo)) (za (zh C__law_gate hr rfl (zm 0 zo)) zn)) vi)))))))),?_⟩;walk_at "ds";refine yn (by first|decide|omega) (by first|decide|omega) λa la ha=>?_;walk_at "ds";refine yn (by first|decide|omega) (by first|decide|omega) λb lb hb=>?_;walk_at "ds";refine yn (by first|decide|omega) (by first|decide|omega) λg1 lg1 hg1=>?_;walk_at "ds";refine yn (by first|decide|omega) (by first|decide|omega) λg2 lg2 hg2=>?_;walk_at "ds";refine yn (by first|decide|omega) (by first|decide|omega) λg3 lg3 hg3=>?_;walk_at "ds";refine yn (by first|decide|omega) (by first|decide|omega) λg4 lg4 hg4=>?_;walk_at "ds";refine yn (by first|decide|omega) (by first|decide|omega) λk1 lk1 hk1=>?_;walk_at "ds";refine yn (by first|decide|omega) (by first|decide|omega) λk2 lk2 hk2=>?_;walk_at "ds";refine qm (ns:=[1,2+k1,1+k2,12,3]) (lo:=1) (hi:=12) (by omega) (by simp only[List.length_cons,List.length_nil];omega) (by intro z hz;simp only[List.mem_cons,List.not_mem_nil,or_false]at hz;omega) λkn lkn hkn=>?_
 walk_at "ds";refine yn (by first|decide|omega) (by first|decide|omega) λt1 lt1 ht1=>?_;walk_at "ds";refine yn (by first|decide|omega) (by first|decide|omega) λt2 lt2 ht2=>?_;walk_at "ds";refine yn (by first|decide|omega) (by first|decide|omega) λt3 lt3 ht3=>?_;walk_at "ds";refine qm (ns:=[1000,t1,t2,4+t3]) (lo:=0) (hi:=1000) (by omega) (by simp only[List.length_cons,List.length_nil];omega) (by intro z hz;simp only[List.mem_cons,List.not_mem_nil,or_false]at hz;omega) λtm ltm htm=>?_;walk_at "ds";refine⟨rfl,λu uo=>?_⟩;walk_at "ds";refine⟨rfl,λg go=>?_⟩;exact q ⟨⟨⟨1+g1,1+g2,g3,1+g4⟩,kn,tm⟩,u,g⟩ ⟨⟨⟨by simp only[];omega,by simp only[];omega,by simp only[];omega,by simp only[];omega,by simp only[];omega,by simp only[];omega,by simp only[];omega,by simp only[];omega⟩,by simp only[];omega,by simp only[];omega,by simp only[];omega,by simp only[];omega⟩,by simp only[];omega,uo,go⟩ (by simp only[];omega)
structure Ask12(as:List Int):Prop where
 le:∀a∈as,0<=a/\a<=1000
 so:as.Pairwise (· <= ·)
 ln:as.length<=12
theorem Ask12.ask{as:List Int}(h:Ask12 as):Ask as:=⟨λa ha=>by have:=h.le a ha;omega,h.so,by have:=h.ln;omega⟩
def qw:DSp:=λws Q=>ws = [.pen]/\∀as:List Int,Ask12 as->Q (.val (.tuple (as.map PyData.int)))
theorem zb4(B:Blt mg)(F:Fun K "_law_askings" "_law_askings" wy f fd)(C__law_draw:Cal P w K mg base 2 "_law_draw" ["_law_pen", "_law_many"] (ya K yx)):FnOk P w K mg base CX0 3 f fd ["_law_pen"] (ya K qw):=by
 refine F.dok sc__law_askings (λws Q h=>?_) (λcdv A outer s H ws Q E hr h=>?_)
 ·obtain⟨rfl,_⟩:=h;rfl
 obtain⟨rfl,q⟩:=h;refine⟨_,(zd (zfa (i:=1) (j:=2) rfl sc__law_askings.nd rfl rfl (by decide) rfl rfl (za (zh C__law_draw hr rfl (zm 0 (zq zc zo yf))) (za (yd (DE.dv (DF.de (yz (za zc (za (zh C__law_draw hr rfl (zm 0 (zq zc zo yf))) (za (zh C__law_draw hr rfl (zm 0 (zq zc zo yf))) zn)) yf)))) (zh C__law_draw hr rfl (zm 0 (zq zc zo yf))) (λ_ _=>rfl)) zn)) rfl) (zd (yo (i:=3) sc__law_askings.nd rfl (Or.inl rfl) (yd (DE.dv (DF.de (yz (za zc (za zc (za zc (za zc zn yf) yf) yf) yf)))) (zh C__law_draw hr rfl (zm 0 (zq zc zo yf))) (λ_ _=>rfl))) (zd (zac (i:=4) sc__law_askings.nd rfl (Or.inl rfl) (yz zn)) (zd (ka PassesOwn.never rfl (jb rfl B.range (za (yd (DE.dv (DF.de (yz (za zc (za (z0 yj (DE.dv zc) (DE.dv (zh C__law_draw hr rfl (zm 0 (zq zc zo yf))))) (za (z0 yj (DE.dv zc) (DE.dv (zh C__law_draw hr rfl (zm 0 (zq zc zo yf))))) (za zc zn yf))) yf)))) (zi 1) (λ_ _=>rfl)) zn)) (zg (i:=5) sc__law_askings.nd rfl (Or.inl rfl)) (zd (vx 4 (yt (zge rfl) rfl B.min boot_min (zt (DE.dv zc) (zt (zb 2) z9) yf))) (zj (yo (i:=2) sc__law_askings.nd rfl (Or.inl rfl) (z0 yj (zb 2) (DE.dv (zh C__law_draw hr rfl (zm 0 (zm 3 zo))))))))) (zj (zr (xj va rfl B.tupleT boot_tuple (zt (zb 4) z9)))))))),?_⟩;walk_at "ds";refine yn (by first|decide|omega) (by first|decide|omega) λmo lmo hmo=>?_;walk_at "ds";refine yn (by first|decide|omega) (by first|decide|omega) λb1 lb1 hb1=>?_;walk_at "ds";refine yn (by first|decide|omega) (by first|decide|omega) λb2 lb2 hb2=>?_;walk_at "ds";refine yn (by first|decide|omega) (by first|decide|omega) λb3 lb3 hb3=>?_;walk_at "ds";refine qm (ns:=[0,b1,b2]) (lo:=0) (hi:=899) (by omega) (by simp only[List.length_cons,List.length_nil];omega) (by intro z hz;simp only[List.mem_cons,List.not_mem_nil,or_false]at hz;omega) λbt lbt hbt=>?_;walk_at "ds";refine yn (by first|decide|omega) (by first|decide|omega) λb4 lb4 hb4=>?_;walk_at "ds";refine qm (ns:=[1,3,12,60]) (lo:=1) (hi:=60) (by omega) (by simp only[List.length_cons,List.length_nil];omega) (by intro z hz;simp only[List.mem_cons,List.not_mem_nil,or_false]at hz;omega) λst lst hst=>?_
 walk_at "ds";refine yn (by first|decide|omega) (by first|decide|omega) λm1 lm1 hm1=>?_;walk_at "ds";refine yn (by first|decide|omega) (by first|decide|omega) λm2 lm2 hm2=>?_;walk_at "ds";refine qm (ns:=[12,1+m1,1+m2,0]) (lo:=0) (hi:=12) (by omega) (by simp only[List.length_cons,List.length_nil];omega) (by intro z hz;simp only[List.mem_cons,List.not_mem_nil,or_false]at hz;omega) λn ln hn=>?_;walk_at "ds";refine⟨by omega,?_⟩;have hlen:(y6 0 n.toNat).length=n.toNat:=by simp[y6]
 generalize y6 0 n.toNat=ts at hlen;refine xp (λds σ=>∃(s:List Int) (bt:Int) (u:Option W),σ = [some .pen,some (.val (.int mo)),some (.val (.int bt)),some (.val (.int st)),some (.own (.lst (s.map PyData.int))),u]/\s.length+ds.length<=12/\0<=bt/\(∀a∈s,0<=a/\a<=1000/\a<=bt)/\s.Pairwise (· <= ·)) ?_ ?_ ⟨[],bt,none,rfl,by rw[hlen,List.length_nil];omega,by omega,λa ha=>(by cases ha),List.Pairwise.nil⟩
 ·rintro d ds σ N ⟨s,bt,u,rfl,hl,h0,hs,hp⟩ k;rw[List.length_cons]at hl;walk_at "ds";rw[List.length_map];refine⟨by omega,?_⟩;refine yn (by first|decide|omega) (by first|decide|omega) λg lg hg=>?_;walk_at "ds";refine k _ ⟨s ++ [min 1000 bt],_,_,(by rw[List.map_append];rfl),by simp;omega,by omega,?_,?_⟩
  ·intro a ha;rcases List.mem_append.mp ha with ha|ha
   ·have:=hs a ha;omega
   ·cases List.mem_singleton.mp ha;omega
  ·rw[List.pairwise_append];refine⟨hp,List.pairwise_singleton _ _,λa ha b hb=>?_⟩
   cases List.mem_singleton.mp hb;have:=hs a ha;omega
 ·rintro σ ⟨s,bt,u,rfl,hl,h0,hs,hp⟩;walk_at "ds";refine q s ⟨λa ha=>⟨(hs a ha).1,(hs a ha).2.1⟩,hp,by simp only[List.length_nil]at hl;omega⟩
structure zqs(s:List (Int×Int)):Prop where
 le:∀r∈s,0<=r.1/\r.1<r.2/\r.2<=10000
 so:s.Pairwise λa b=>a.2<b.1
 ln:s.length<=10
def kx:DSp:=λws Q=>∃b:Int,ws = [.pen,.val (.int b)]/\b<=1000/\∀s:List (Int×Int),zqs s->Q (.val (.tuple (s.map pD)))
theorem zdb(B:Blt mg)(F:Fun K "_law_outage" "_law_outage" vo f fd)(C__law_draw:Cal P w K mg base 2 "_law_draw" ["_law_pen", "_law_many"] (ya K yx)):FnOk P w K mg base CX0 3 f fd ["_law_pen", "_law_at"] (ya K kx):=by
 refine F.dok sc__law_outage (λws Q h=>?_) (λcdv A outer s H ws Q E hr h=>?_)
 ·obtain⟨b,rfl,_⟩:=h;rfl
 obtain⟨b,rfl,hb,q⟩:=h;refine⟨_,(zd (zac (i:=2) sc__law_outage.nd rfl (Or.inl rfl) (yz zn)) (zd (yo (i:=1) sc__law_outage.nd rfl (Or.inl rfl) (yt (zrc rfl) rfl B.max boot_max (zt (DE.dv zc) (zt (DE.dv (z0 zd2 (zb 1) (DE.dv (zh C__law_draw hr rfl (zm 0 (zq zc zo yf)))))) z9) yf))) (zd (ka PassesOwn.never rfl (jb rfl B.range (za (zh C__law_draw hr rfl (zm 0 (zq zc zo yf))) zn)) (zg (i:=3) sc__law_outage.nd rfl (Or.inl rfl)) (zd (yo (i:=4) sc__law_outage.nd rfl (Or.inl rfl) (z0 yj (DE.dv (z0 yj (zb 1) (DE.dv zc))) (DE.dv (yd (DE.dv (DF.de (yz (za (zh C__law_draw hr rfl (zm 0 (zq zc zo yf))) (za (zh C__law_draw hr rfl (zm 0 (zq zc zo yf))) (za (zh C__law_draw hr rfl (zm 0 (zq zc zo yf))) zn)))))) (zh C__law_draw hr rfl (zm 0 (zq zc zo yf))) (λ_ _=>rfl))))) (zd (vx 2 (zw (za (zi 1) (za (zi 4) zn)))) (zj (yo (i:=1) sc__law_outage.nd rfl (Or.inl rfl) (z0 yj (DE.dv (z0 yj (zb 4) (DE.dv zc))) (DE.dv (zh C__law_draw hr rfl (zm 0 (zq zc zo yf)))))))))) (zj (zr (xj va rfl B.tupleT boot_tuple (zt (zb 2) z9))))))),?_⟩;walk_at "ds";refine yn (by first|decide|omega) (by first|decide|omega) λa la ha=>?_;walk_at "ds";refine yn (by first|decide|omega) (by first|decide|omega) λc lc hc=>?_;walk_at "ds";refine⟨by omega,?_⟩;have hlen:(y6 0 c.toNat).length=c.toNat:=by simp[y6]
 generalize y6 0 c.toNat=ts at hlen;refine xp (λds σ=>∃(s:List (Int×Int)) (at_:Int) (u v:Option W),σ = [some .pen,some (.val (.int at_)),some (.own (.lst (s.map pD))),u,v]/\s.length+ds.length<=5/\0<=at_/\at_<=1000+620 * s.length/\(∀r∈s,0<=r.1/\r.1<r.2/\r.2<=10000/\r.2<at_)/\s.Pairwise λa b=>a.2<b.1) ?_ ?_ ⟨[],_,none,none,rfl,by rw[hlen,List.length_nil];omega,by omega,by simp only[List.length_nil];omega,λa ha=>(by cases ha),List.Pairwise.nil⟩
 ·rintro d ds σ N ⟨s,at_,u,v,rfl,hl,h0,h1,hs,hp⟩ k;rw[List.length_cons]at hl;walk_at "ds";refine yn (by first|decide|omega) (by first|decide|omega) λe le he=>?_;walk_at "ds";refine yn (by first|decide|omega) (by first|decide|omega) λg lg hg=>?_;walk_at "ds";refine yn (by first|decide|omega) (by first|decide|omega) λh lh hh=>?_;walk_at "ds";refine yn (by first|decide|omega) (by first|decide|omega) λi li hi=>?_;walk_at "ds";refine qm (ns:=[e,g,h]) (lo:=0) (hi:=599) (by omega) (by simp only[List.length_cons,List.length_nil];omega) (by intro z hz;simp only[List.mem_cons,List.not_mem_nil,or_false]at hz;omega) λj lj hj=>?_;walk_at "ds";rw[List.length_map];refine⟨by omega,?_⟩;refine yn (by first|decide|omega) (by first|decide|omega) λz lz hz=>?_;walk_at "ds";refine k _ ⟨s ++ [(at_,at_+1+j)],_,_,_,(by rw[List.map_append];rfl),by simp;omega,by omega,by simp;omega,?_,?_⟩
  ·intro r hr;rcases List.mem_append.mp hr with hr|hr
   ·have:=hs r hr;omega
   ·cases List.mem_singleton.mp hr;exact⟨h0,by simp only[];omega,by simp only[];omega,by simp only[];omega⟩
  ·rw[List.pairwise_append];refine⟨hp,List.pairwise_singleton _ _,λa ha b hb=>?_⟩
   cases List.mem_singleton.mp hb;have:=hs a ha;exact this.2.2.2
 ·rintro σ ⟨s,at_,u,v,rfl,hl,h0,h1,hs,hp⟩;walk_at "ds";exact q s ⟨λr hr=>⟨(hs r hr).1,(hs r hr).2.1,(hs r hr).2.2.1⟩,hp,by simp only[List.length_nil]at hl;omega⟩
def ky:DSp:=λws Q=>ws = [.pen]/\∀(c:Cl) (as:List Int) (s:List (Int×Int)),c.Ok->c.p.n<=12->Ask12 as->zqs s->Q (.val (.tuple [c.D,.tuple (as.map PyData.int),.tuple (s.map pD)]))
theorem zdc(B:Blt mg)(F:Fun K "_law_played" "_law_played" vr f fd)(C__law_draw:Cal P w K mg base 2 "_law_draw" ["_law_pen", "_law_many"] (ya K yx))(C__law_caller:Cal P w K mg base 4 "_law_caller" ["_law_pen"] (ya K kw))(C__law_askings:Cal P w K mg base 3 "_law_askings" ["_law_pen"] (ya K qw))(C__law_outage:Cal P w K mg base 3 "_law_outage" ["_law_pen", "_law_at"] (ya K kx)):FnOk P w K mg base CX0 5 f fd ["_law_pen"] (ya K ky):=by
 refine F.dok sc__law_played (λws Q h=>?_) (λcdv A outer s H ws Q E hr h=>?_)
 ·obtain⟨rfl,_⟩:=h;rfl
 obtain⟨rfl,q⟩:=h;refine⟨_,(zd (zfa (i:=1) (j:=2) rfl sc__law_played.nd rfl rfl (by decide) rfl rfl (za (zh C__law_caller hr rfl (zm 0 zo)) (za (zh C__law_askings hr rfl (zm 0 zo)) zn)) rfl) (zd (yo (i:=3) sc__law_played.nd rfl (Or.inl rfl) (yd (DE.dv (z0 yj (zb 2) (DE.dv (zw (za zc zn yf))))) zc (λ_ _=>rfl))) (zd (yo (i:=4) sc__law_played.nd rfl (Or.inl rfl) (yd (DE.dv (DF.de (yz (za (zh C__law_outage hr rfl (zm 0 (zm 3 zo))) (za (zw (za (zw (za (zi 3) (za (z0 yj (zb 3) (DE.dv zc)) zn))) zn vi)) (za (zw zn) (za (zh C__law_outage hr rfl (zm 0 (zm 3 zo))) zn) vi) vi))))) (zh C__law_draw hr rfl (zm 0 (zq zc zo yf))) (λ_ _=>rfl))) (zj (zr (zw (za (zi 1) (za (zi 2) (za (zi 4) zn))))))))),?_⟩;walk_at "ds";refine⟨rfl,λc co cn=>?_⟩;walk_at "ds";refine⟨rfl,λas ao=>?_⟩;walk_at "ds";have ln:=ao.ln;obtain⟨a,ha,hle⟩:∃a:Int,atI (as.map PyData.int ++ [.int 0]) 0=some (.int a)/\0<=a/\a<=1000:=by
  cases as with
  |nil=>exact⟨0,rfl,by decide,by decide⟩
  |cons a r=>exact⟨a,yr _ _,ao.le a List.mem_cons_self⟩
 rw[List.length_map];refine⟨by omega,_,ha,?_⟩;refine⟨a,rfl,hle.2,λs1 o1=>?_⟩;walk_at "ds";refine⟨a,rfl,hle.2,λs2 o2=>?_⟩;walk_at "ds";refine yn (by first|decide|omega) (by first|decide|omega) λi li hi=>?_;walk_at "ds";refine zre li (by simp only[List.length_cons,List.length_nil];omega) λx hx=>?_;simp only[List.mem_cons,List.not_mem_nil,or_false]at hx;have fin:∀s:List (Int×Int),zqs s->x=.tuple (s.map pD)->Q (.val (.tuple [c.D,.tuple (as.map PyData.int),x])):=λs so e=>by rw[e];exact q c as s co cn ao so
 rcases hx with e|e|e|e
 ·exact fin s1 o1 e
 ·exact fin [(a,a+2500)] ⟨λr hr=>by cases List.mem_singleton.mp hr;exact⟨hle.1,by simp only[];omega,by simp only[];omega⟩,List.pairwise_singleton _ _,by simp⟩ e
 ·exact fin [] ⟨λr hr=>(by cases hr),List.Pairwise.nil,by simp⟩ e
 ·exact fin s2 o2 e
end
section
variable {P:Program}{w:World}{K:PySem.W.Frag}{mg:Str->Option Value}{base:Heap}{f:Addr}{fd:FuncData}
def whB:D->Bool
 |.int _=>true
 |_=>false
def inB(lo hi:Int):D->Bool
 |.int i=>decide (lo<=i/\i<=hi)
 |_=>false
def zbv:DSp:=λws Q=>∃d:D,ws = [.val d]/\Q (.val (.bool (whB d)))
theorem zhg(B:Blt mg)(F:Fun K "is_whole" "is_whole" j2 f fd):FnOk P w K mg base CX0 1 f fd ["thing"] (ya K zbv):=by
 refine F.dok zg1 (λws Q h=>?_) (λcdv A outer s H ws Q E hr h=>?_)
 ·obtain⟨d,rfl,_⟩:=h;rfl
 obtain⟨d,rfl,q⟩:=h;refine⟨_,(zj (zr (zmr (za0 (n := "int") zvu rfl B.isinstance boot_isinstance (zb 0) rfl B.intT boot_int) (zmq (zh4 (za0 (n := "bool") ztb rfl B.isinstance boot_isinstance (zb 0) rfl B.boolT boot_bool)))))),?_⟩;walk_at "ds"
 cases d <;> exact q
def zbw:DSp:=λws Q=>∃(d:D) (lo hi:Int),ws = [.val d,.val (.int lo),.val (.int hi)]/\Q (.val (.bool (inB lo hi d)))
theorem zhh(B:Blt mg)(F:Fun K "whole_in" "whole_in" j3 f fd)(C_is_whole:Cal P w K mg base 1 "is_whole" ["thing"] (ya K zbv)):FnOk P w K mg base CX0 2 f fd ["thing", "least", "most"] (ya K zbw):=by
 refine F.dok zg2 (λws Q h=>?_) (λcdv A outer s H ws Q E hr h=>?_)
 ·obtain⟨d,lo,hi,rfl,_⟩:=h;rfl
 obtain⟨d,lo,hi,rfl,q⟩:=h;refine⟨_,(zj (zr (zmr (zh C_is_whole hr rfl (zm 0 zo)) (zmq (zcj zck zck (zb 1) (zb 0) (zb 2)))))),?_⟩;walk_at "ds";refine⟨d,rfl,?_⟩
 cases d with
 |int i=>
  simp only[whB];walk_at "ds"
  split
  ·next c=>simpa[inB,c]using q
  ·next c=>simpa[inB,c]using q
 |_=>simp only[whB];walk_at "ds";exact q
def vg(bs:List (Int×Int)):D->Bool
 |.tuple xs=>decide (xs.length=bs.length) && (xs.zip bs).all λp=>inB p.2.1 p.2.2 p.1
 |_=>false
theorem zhi:∀(xs:List D) (bs:List (Int×Int)),q9 xs (bs.map pD)=(xs.zip bs).map λp=>PyData.tuple [p.1,pD p.2]
 |[],_=>by simp[q9]
 |_::_,[]=>by simp[q9]
 |x::xs,b::bs=>by
  have:=zhi xs bs;simp only[q9]at this;simp[q9,this]
def zau:DSp:=λws Q=>∃(d:D) (bs:List (Int×Int)),ws = [.val d,.val (.tuple (bs.map pD))]/\bs.length<=1000/\Q (.val (.bool (vg bs d)))
theorem zfw(B:Blt mg)(F:Fun K "wholes_in" "wholes_in" ke f fd)(C_whole_in:Cal P w K mg base 2 "whole_in" ["thing", "least", "most"] (ya K zbw)):FnOk P w K mg base CX0 3 f fd ["thing", "bounds"] (ya K zau):=by
 refine F.dok zfj (λws Q h=>?_) (λcdv A outer s H ws Q E hr h=>?_)
 ·obtain⟨d,bs,rfl,_⟩:=h;rfl
 obtain⟨d,bs,rfl,hl,q⟩:=h;refine⟨_,(zd (yw (DWt.dt (jq (x8 (wo (DE.dv (za0 (n := "tuple") ze1 rfl B.isinstance boot_isinstance (zb 0) rfl B.tupleT boot_tuple)))) (zay (yk (zcl hr) (DE.dv (yt zab rfl B.len PySem.boot_len (zt (zb 0) z9))) (DE.dv (yt zab rfl B.len PySem.boot_len (zt (zb 1) z9))) (yg _))))) (zj (zr xl)) ye) (zj (zr (yt (zvt rfl) rfl B.all boot_all (zt (DE.dv (DF.de (ql rfl (N':=["number", "least", "most"]) (capt:=[]) (k:=3) (js:=[]) ⟨rfl,by decide,rfl,by decide,.nil,rfl,.nil,rfl,by decide⟩ (zpl rfl B.zip (zt (zb 0) (zt (zb 1) z9))) (λ_ _ _ _=>(yq (n:=2) rfl (ze (zg (i:=0) (show List.Nodup (["number", "least", "most"]:List Str) by decide +kernel) rfl (Or.inl rfl) (Or.inr rfl)) (ze (yq (n:=2) rfl (ze (zg (i:=1) (show List.Nodup (["number", "least", "most"]:List Str) by decide +kernel) rfl (Or.inl rfl) (Or.inr rfl)) (ze (zg (i:=2) (show List.Nodup (["number", "least", "most"]:List Str) by decide +kernel) rfl (Or.inl rfl) (Or.inr rfl)) yh))) yh)))) (λ_ _ _ _=>wg) (λ_ _ _ _=>(zh C_whole_in hr rfl (zm 0 (zm 1 (zm 2 zo)))))))) z9))))),?_⟩
 cases d with
 |tuple xs=>
  walk_at "ds";rw[List.length_map,zhi];simp only[vg]at q
  by_cases c:xs.length=bs.length
  ·rw[if_neg (λz=>z (by rw[c]))];rw[decide_eq_true c,Bool.true_and]at q;refine⟨by rw[List.length_map,List.length_zip];omega,xq _ (λp:D×(Int×Int)=>.bool (inB p.2.1 p.2.2 p.1)) (λp hp k hk=>?_) ⟨(xs.zip bs).map λp=>inB p.2.1 p.2.2 p.1,?_,?_⟩⟩
   ·simp only[pD];walk_at "ds";exact⟨p.1,p.2.1,p.2.2,rfl,hk⟩
   ·have:=jx ((xs.zip bs).map λp=>inB p.2.1 p.2.2 p.1);rw[List.map_map]at this;exact this
   ·rw[List.all_map];exact q
  ·rw[if_pos (λz=>c (by omega))];rw[decide_eq_false c,Bool.false_and]at q;exact q
 |_=>walk_at "ds";exact q
def Sg.Gd(g:Gt):Sg->Prop
 |.op k=>0<=k/\k<g.f
 |.sh u w=>0<=u/\u<=1001000/\g.r<=w/\w<=g.m
 |.tr k w=>0<=k/\k<g.n/\g.r<=w/\w<=g.m
theorem Sg.Gd.ok{g:Gt}(o:g.Ok):∀{s:Sg},s.Gd g->s.Ok g
 |.op k,h=>h
 |.sh u w,h=>⟨h.1,by have:=h.2.1;omega,by have:=h.2.2.1;have:=o.r1;omega,h.2.2.2⟩
 |.tr k w,h=>⟨h.1,h.2.1,by have:=h.2.2.1;have:=o.r1;omega,h.2.2.2⟩
theorem zoq{g:Gt}(o:g.Ok):∀{s:Sg}{b:Int},s.Gd g->(zb2 s b).2.Gd g
 |.op k,b,h=>h
 |.tr k w,b,h=>h
 |.sh u w,b,h=>by
  have:=o.n1;simp only[zb2]
  split
  ·exact h
  ·exact⟨Int.le_refl _,by omega,h.2.2.1,h.2.2.2⟩
theorem zwj{g:Gt}(o:g.Ok){b:Int}(hb:0<=b/\b<=1000000){a:Bool}:∀{s:Sg},s.Gd g->(heL g s b a).Gd g
 |.op k,h=>by
  have:=o.f1;have:=o.r1;have:=o.m1;have:=o.m2;simp only[Sg.Gd]at h;simp only[heL]
  split
  ·exact⟨Int.le_refl _,by omega⟩
  ·split
   ·exact⟨by omega,by omega,by omega,by omega⟩
   ·exact⟨by omega,by omega⟩
 |.tr k w,h=>by
  have:=o.f1;have:=o.m2;have:=o.r1;have:=o.m1;simp only[Sg.Gd]at h;have h1:1 * w<=g.t * w:=Int.mul_le_mul_of_nonneg_right o.t1 (by omega);simp only[heL]
  split
  ·split
   ·exact⟨Int.le_refl _,by omega⟩
   ·exact⟨by omega,by omega,h.2.2.1,h.2.2.2⟩
  ·exact⟨by omega,by omega,by omega,by omega⟩
 |.sh u w,h=>h
def v7:DSp:=λws Q=>∃(g:Gt) (s:Sg),ws = [.val g.D,.val s.D]/\g.Ok/\s.Gd g/\Q (.val (.bool true))
theorem zbm(B:Blt mg)(F:Fun K "standing_good" "standing_good" wb f fd){t_OPEN:Tok}(G_OPEN:mg "OPEN" = some (.str "open" t_OPEN)){t_SHUT:Tok}(G_SHUT:mg "SHUT" = some (.str "shut" t_SHUT)){t_TRYING:Tok}(G_TRYING:mg "TRYING" = some (.str "trying" t_TRYING)){t_LAST_UNTIL:Tok}(G_LAST_UNTIL:mg "LAST_UNTIL" = some (.int 1001000 t_LAST_UNTIL))(C_wholes_in:Cal P w K mg base 3 "wholes_in" ["thing", "bounds"] (ya K zau)):FnOk P w K mg base CX0 4 f fd ["gate", "thing"] (ya K v7):=by
 refine F.dok sc_standing_good (λws Q h=>?_) (λcdv A outer s H ws Q E hr h=>?_)
 ·obtain⟨g,s,rfl,_⟩:=h;rfl
 obtain⟨g,s,rfl,o,os,q⟩:=h;simp only[Gt.D];refine⟨_,(zd (y3 (zi 0) (yq (n:=5) rfl (ze (zg (i:=2) sc_standing_good.nd rfl (Or.inl rfl)) (ze (zg (i:=3) sc_standing_good.nd rfl (Or.inl rfl)) (ze (zg (i:=4) sc_standing_good.nd rfl (Or.inl rfl)) (ze (zg (i:=5) sc_standing_good.nd rfl (Or.inl rfl)) (ze (zg (i:=6) sc_standing_good.nd rfl (Or.inl rfl)) yh))))))) (zd (yw (DWt.dt (jq (x8 (wo (DE.dv (za0 (n := "tuple") ze1 rfl B.isinstance boot_isinstance (zb 1) rfl B.tupleT boot_tuple)))) (zay (yk (qz hr) (DE.dv (yt zab rfl B.len PySem.boot_len (zt (zb 1) z9))) (DE.dv zc) (yg _))))) (zj (zr xl)) ye) (zd (yw (yk (qz hr) (DE.dv (yd (zb 1) zc (λ_ _=>rfl))) (DE.dv (yi (d:=.str "open") (v:=.str "open") rfl G_OPEN ⟨_,rfl⟩ (λ_=>.str))) (yg _)) (zj (zr (zh C_wholes_in hr rfl (zq (wu (zb 1) (xw zc) ja) (zq (zw (za (zw (za zc (za (z0 zd2 (zb 2) (DE.dv zc)) zn) yf)) zn vi)) zo vi))))) ye) (zd (yw (yk (qz hr) (DE.dv (yd (zb 1) zc (λ_ _=>rfl))) (DE.dv (yi (d:=.str "shut") (v:=.str "shut") rfl G_SHUT ⟨_,rfl⟩ (λ_=>.str))) (yg _)) (zj (zr (zh C_wholes_in hr rfl (zq (wu (zb 1) (xw zc) ja) (zq (zw (za (zw (za zc (za (yi (d:=.int 1001000) (v:=.int 1001000) rfl G_LAST_UNTIL ⟨_,rfl⟩ (λ_=>.int)) zn) yf)) (za (zw (za (zi 3) (za (zi 5) zn))) zn vi) vi)) zo vi))))) ye) (zd (yw (yk (qz hr) (DE.dv (yd (zb 1) zc (λ_ _=>rfl))) (DE.dv (yi (d:=.str "trying") (v:=.str "trying") rfl G_TRYING ⟨_,rfl⟩ (λ_=>.str))) (yg _)) (zj (zr (zh C_wholes_in hr rfl (zq (wu (zb 1) (xw zc) ja) (zq (zw (za (zw (za zc (za (z0 zd2 (zb 6) (DE.dv zc)) zn) yf)) (za (zw (za (zi 3) (za (zi 5) zn))) zn vi) vi)) zo vi))))) ye) (zj (zr xl))))))),?_⟩
 cases s with
 |op k=>
  simp only[Sg.Gd]at os;simp only[Sg.D];walk_at "ds";refine⟨_,yr _ _,?_⟩;walk_at "ds";refine⟨_,[(0,g.f-1)],rfl,Nat.le_of_ble_eq_true rfl,?_⟩;have e:vg [(0,g.f-1)] (.tuple (y0 [.str "open",.int k] (some 1) none))=true:=by
   rw[show y0 [PyData.str "open",.int k] (some 1) none = [.int k] from rfl];simp[vg,inB];omega
  rw[e];exact q
 |sh u w=>
  simp only[Sg.Gd]at os;simp only[Sg.D];walk_at "ds";refine⟨_,yr _ _,?_⟩;walk_at "ds";rw[if_neg zwc];refine⟨_,yr _ _,?_⟩;walk_at "ds";refine⟨_,[(0,1001000),(g.r,g.m)],rfl,Nat.le_of_ble_eq_true rfl,?_⟩;have e:vg [(0,1001000),(g.r,g.m)] (.tuple (y0 [.str "shut",.int u,.int w] (some 1) none))=true:=by
   rw[show y0 [PyData.str "shut",.int u,.int w] (some 1) none = [.int u,.int w] from rfl];simp[vg,inB];omega
  rw[e];exact q
 |tr k w=>
  simp only[Sg.Gd]at os;simp only[Sg.D];walk_at "ds";refine⟨_,yr _ _,?_⟩;walk_at "ds";rw[if_neg zrm];refine⟨_,yr _ _,?_⟩;walk_at "ds";rw[if_neg zoi];refine⟨_,yr _ _,?_⟩;walk_at "ds";refine⟨_,[(0,g.n-1),(g.r,g.m)],rfl,Nat.le_of_ble_eq_true rfl,?_⟩;have e:vg [(0,g.n-1),(g.r,g.m)] (.tuple (y0 [.str "trying",.int k,.int w] (some 1) none))=true:=by
   rw[show y0 [PyData.str "trying",.int k,.int w] (some 1) none = [.int k,.int w] from rfl];simp[vg,inB];omega
  rw[e];exact q
end
section
variable {P:Program}{w:World}{K:PySem.W.Frag}{mg:Str->Option Value}{base:Heap}{f:Addr}{fd:FuncData}
inductive Tk(c:Cl)(a:Int):List E4->Nat->Int->Prop
 |nil:Tk c a [] 0 a
 |snoc {xs:List E4}{k:Nat}{b:Int}{x:E4} (h:Tk c a xs k b) (hb:x.b=b) (hw:x.e.w≠some true) (ht:x.e.t=.due (b+gp c.p.g k)) (hd:b+gp c.p.g k<=a+c.p.t) (hn:(k:Int)+1<c.p.n):Tk c a (xs ++ [x]) (k+1) (b+gp c.p.g k)
def Lx(c:Cl)(a:Int)(k:Nat)(x:E4):Prop :=
 (x.e.w=some true/\x.e.t=.non)\/(x.e.w≠some true/\((x.e.t=.kno/\(k:Int)+1=c.p.n)\/(x.e.t=.tim/\(k:Int)+1<c.p.n/\a+c.p.t<x.b+gp c.p.g k)\/(x.e.t=.pur/\(k:Int)+1<c.p.n/\x.b+gp c.p.g k<=a+c.p.t)))
def Cd(c:Cl)(a:Int)(es:List E4):Prop:=∃xs k x,es=xs ++ [x]/\Tk c a xs k x.b/\Lx c a k x
def qa(n:Int)(es:List E4):List E4:=es.filter λx=>decide (x.e.n=n)
theorem jk(n:Int)(es:List E4)(x:E4):qa n (es ++ [x])=if x.e.n=n then qa n es ++ [x] else qa n es:=by
 unfold qa;rw[List.filter_append,List.filter_cons,List.filter_nil]
 split
 ·next h=>rw[if_pos (of_decide_eq_true h)]
 ·next h=>rw[if_neg (λz=>h (decide_eq_true z)),List.append_nil]
theorem zhj{c:Cl}{s:Sn}{snd:Bool}{n a t:Int}{xs:List E4}(h:Tk c a xs t.toNat s.b)(h0:0<=t)(hk:t<c.p.n):
  (∃d,(yv c s snd n a t).1.w=s.w ++ [⟨d,n,a,t+1⟩]/\Tk c a (xs ++ [E4.mk s.b (yv c s snd n a t).2]) (t+1).toNat d) \/
   ((yv c s snd n a t).1.w=s.w/\Cd c a (xs ++ [E4.mk s.b (yv c s snd n a t).2])):=by
 have ek:((t.toNat:Nat):Int)=t:=Int.toNat_of_nonneg h0;have e1:(t+1).toNat-1=t.toNat:=by omega
 have e2:(t+1).toNat=t.toNat+1:=by omega
 unfold yv
 by_cases c0:(j8 c.g s.g s.b snd).1=some true
 ·rw[if_pos c0];exact .inr ⟨rfl,xs,t.toNat,_,rfl,h,.inl ⟨rfl,rfl⟩⟩
 rw[if_neg c0];unfold whL
 by_cases c1:t+1=c.p.n
 ·rw[if_pos c1];exact .inr ⟨rfl,xs,t.toNat,_,rfl,h,.inr ⟨c0,.inl ⟨rfl,by omega⟩⟩⟩
 rw[if_neg c1,e1]
 by_cases c2:a+c.p.t<s.b+gp c.p.g t.toNat
 ·rw[if_pos c2];exact .inr ⟨rfl,xs,t.toNat,_,rfl,h,.inr ⟨c0,.inr (.inl ⟨rfl,by omega,c2⟩)⟩⟩
 rw[if_neg c2]
 by_cases c3:s.c<c.u.p
 ·rw[if_pos c3];exact .inr ⟨rfl,xs,t.toNat,_,rfl,h,.inr ⟨c0,.inr (.inr ⟨rfl,by omega,Int.not_lt.mp c2⟩)⟩⟩
 rw[if_neg c3];refine .inl ⟨_,rfl,?_⟩;rw[e2];exact .snoc h rfl c0 rfl (Int.not_lt.mp c2) (by omega)
def fl0(as:List Int)(x:E4):Int:=if as[x.e.n.toNat]?=some x.b then 1 else 0
def zav(as:List Int)(x:E4):List Int:=[x.b,fl0 as x,x.e.n]
theorem zrn{as:List Int}{x y:E4}(h:x.b<y.b):zav as x<zav as y:=List.Lex.rel h
theorem zwk{as:List Int}{x y:E4}(hb:x.b=y.b)(h:fl0 as x<fl0 as y):zav as x<zav as y:=by
 unfold zav;rw[hb];exact List.Lex.cons (List.Lex.rel h)
theorem zro{as:List Int}{x y:E4}(hb:x.b=y.b)(hf:fl0 as x=fl0 as y)(h:x.e.n<y.e.n):zav as x<zav as y:=by
 unfold zav;rw[hb,hf];exact List.Lex.cons (List.Lex.cons (List.Lex.rel h))
theorem zwl(as:List Int)(x:E4):fl0 as x=0\/fl0 as x=1:=by
 unfold fl0
 split
 ·exact .inr rfl
 ·exact .inl rfl
structure Iv(c:Cl)(as:List Int)(st:Sn)(es:List E4):Prop where
 ws:∀e∈st.w,Tk c e.b (qa e.n es) e.t.toNat e.d
 nd:(st.w.map (·.n)).Nodup
 cl:∀i:Nat,(i:Int)<st.k->(∃e∈st.w,e.n=(i:Int))\/∃a,as[i]?=some a/\Cd c a (qa i es)
 nw:∀n:Int,st.k<=n->qa n es = []
 lt:∀x∈es,x.b<st.b
 so:(es.map (zav as)).Pairwise (· < ·)
 n0:∀x∈es,0<=x.e.n
structure Im(c:Cl)(as:List Int)(b:Int)(rs:List Tr)(s:Sn)(es:List E4):Prop where
 wr:∀r∈rs,Tk c r.b (qa r.n es) r.t.toNat b/\r.b<b
 ws:∀e∈s.w,Tk c e.b (qa e.n es) e.t.toNat e.d
 nd:(rs.map (·.n)++s.w.map (·.n)).Nodup
 rr:(rs.map (·.n)).Pairwise (· < ·)
 cl:∀i:Nat,(i:Int)<s.k->(∃r∈rs,r.n=(i:Int))\/(∃e∈s.w,e.n=(i:Int))\/∃a,as[i]?=some a/\Cd c a (qa i es)
 nw:∀n:Int,s.k<=n->qa n es = []
 lt:∀x∈es,x.b<=b
 so:(es.map (zav as)).Pairwise (· < ·)
 dz:∀r∈rs,∀x∈es,x.b=b->x.e.n<r.n/\as[x.e.n.toNat]?≠some b
 kz:∀x∈es,x.b=b->x.e.n<s.k
 n0:∀x∈es,0<=x.e.n
theorem zko{as:List Int}{es:List E4}{x:E4}(h:(es.map (zav as)).Pairwise (· < ·))(hx:∀y∈es,zav as y<zav as x):((es ++ [x]).map (zav as)).Pairwise (· < ·):=by
 rw[List.map_append,List.pairwise_append];refine⟨h,by simp,λu hu v hv=>?_⟩;obtain⟨y,hy,rfl⟩:=List.mem_map.mp hu;rw[List.map_singleton,List.mem_singleton]at hv;rw[hv];exact hx y hy
theorem zt9{c:Cl}(o:c.Ok){as:List Int}{b K:Int}{snd:Bool}{r:Tr}{rs:List Tr}{m:Nat}{s:Sn}{es:List E4}(M:Md c as b K (r::rs) m s)(h:Im c as b (r::rs) s es):
  Im c as b rs (yv c s snd r.n r.b r.t).1 (es ++ [E4.mk b (yv c s snd r.n r.b r.t).2]):=by
 obtain⟨r1,r2,r3,r4,r5,r6⟩:=M.rs r List.mem_cons_self;have tb:=vf c s snd r.n r.b r.t;have tn:=(xm o s snd r.n r.b r.t).1;obtain⟨hw1,hw2⟩:=h.wr r List.mem_cons_self;have eb:=M.eb;have nx:=zhj (s:=s) (snd:=snd) (n:=r.n) (by rw[eb];exact hw1) r1.1 r1.2;rw[eb]at nx;generalize hx:E4.mk b (yv c s snd r.n r.b r.t).2=x at *;have xn:x.e.n=r.n:=by rw[<-hx];exact tn
 have xb:x.b=b:=by rw[<-hx]
 generalize hs2:(yv c s snd r.n r.b r.t).1=s2 at *;have same:∀n:Int,n≠r.n->qa n (es ++ [x])=qa n es:=λn hn=>by rw[jk,if_neg (λz=>hn (z.symm.trans xn))]
 have own:qa r.n (es ++ [x])=qa r.n es ++ [x]:=by rw[jk,if_pos xn]
 have nd:=h.nd;rw[List.map_cons,List.cons_append,List.nodup_cons]at nd;have rr:=h.rr;rw[List.map_cons,List.pairwise_cons]at rr;have ne_w:∀e∈s.w,e.n≠r.n:=λe he z=>nd.1 (List.mem_append_right _ (z ▸ List.mem_map_of_mem he));have ne_r:∀q∈rs,q.n≠r.n:=λq hq z=>nd.1 (List.mem_append_left _ (z ▸ List.mem_map_of_mem hq));have f0:as[r.n.toNat]?≠some b:=by rw[r5];intro z;cases z;exact absurd hw2 (Int.lt_irrefl _)
 have xf:fl0 as x=0:=by unfold fl0;rw[if_neg (by rw[xn,xb];exact f0)]
 refine⟨λq hq=>?_,λe he=>?_,?_,rr.2,λi hi=>?_,λn hn=>?_,λy hy=>?_,zko h.so λy hy=>?_,λq hq y hy hyb=>?_,λy hy hyb=>?_,λy hy=>?_⟩
 ·rw[same _ (ne_r q hq)];exact h.wr q (List.mem_cons_of_mem _ hq)
 ·rcases nx with⟨d,e1,t1⟩ |⟨e1,_⟩
  ·rw[e1]at he;rcases List.mem_append.mp he with he|he
   ·rw[same _ (ne_w e he)];exact h.ws e he
   ·rw[List.mem_singleton.mp he,own];exact t1
  ·rw[e1]at he;rw[same _ (ne_w e he)];exact h.ws e he
 ·rcases nx with⟨d,e1,t1⟩ |⟨e1,_⟩
  ·rw[e1,List.map_append,<-List.append_assoc,List.map_singleton];exact(List.perm_append_comm (l₁:=[r.n])).nodup_iff.mp (List.nodup_cons.mpr nd)
  ·rw[e1];exact nd.2
 ·rw[tb.2]at hi
  by_cases z:(i:Int)=r.n
  ·rcases nx with⟨d,e1,t1⟩ |⟨e1,t1⟩
   ·exact .inr (.inl ⟨_,by rw[e1];exact List.mem_append_right _ (List.mem_singleton.mpr rfl),z.symm⟩)
   ·refine .inr (.inr ⟨r.b,by rw[<-r5,<-z];rfl,?_⟩);rw[z,own];exact t1
  ·rcases h.cl i hi with⟨q,hq,e⟩ |⟨e,he,e2⟩ |⟨a,h1,h2⟩
   ·rcases List.mem_cons.mp hq with y|y
    ·exact absurd (by rw[<-e,y]) z
    ·exact .inl ⟨q,y,e⟩
   ·refine .inr (.inl ⟨e,?_,e2⟩);rcases nx with⟨d,e1,_⟩ |⟨e1,_⟩
    ·rw[e1];exact List.mem_append_left _ he
    ·rw[e1];exact he
   ·exact .inr (.inr ⟨a,h1,by rw[same _ z];exact h2⟩)
 ·rw[tb.2]at hn;rw[same n (by omega)];exact h.nw n hn
 ·rcases List.mem_append.mp hy with hy|hy
  ·exact h.lt y hy
  ·rw[List.mem_singleton.mp hy,xb];exact Int.le_refl _
 ·rcases Int.lt_or_le y.b b with z|z
  ·exact zrn (by rw[xb];exact z)
  ·have yb:y.b=b:=Int.le_antisymm (h.lt y hy) z;obtain⟨d1,d2⟩:=h.dz r List.mem_cons_self y hy yb;refine zro (by rw[xb,yb]) ?_ (by rw[xn];exact d1);rw[xf];unfold fl0;rw[if_neg (by rw[yb];exact d2)]
 ·rcases List.mem_append.mp hy with hy|hy
  ·exact h.dz q (List.mem_cons_of_mem _ hq) y hy hyb
  ·rw[List.mem_singleton.mp hy,xn];exact⟨rr.1 _ (List.mem_map_of_mem hq),f0⟩
 ·rw[tb.2];rcases List.mem_append.mp hy with hy|hy
  ·exact h.kz y hy hyb
  ·rw[List.mem_singleton.mp hy,xn];exact r4
 ·rcases List.mem_append.mp hy with hy|hy
  ·exact h.n0 y hy
  ·rw[List.mem_singleton.mp hy,xn];exact r3
theorem zua{c:Cl}(o:c.Ok){as:List Int}{b K:Int}{snd:Bool}{m:Nat}{s:Sn}{es:List E4}(M:Md c as b K [] (m+1) s)(ha:as[s.k.toNat]?=some b)(h:Im c as b [] s es):
  Im c as b [] (yv c (yy c s) snd s.k s.b 0).1 (es ++ [E4.mk b (yv c (yy c s) snd s.k s.b 0).2]):=by
 have tb:=vf c (yy c s) snd s.k s.b 0;have tn:=(xm o (yy c s) snd s.k s.b 0).1;have eb:=M.eb;have k0:=M.k0;have n1:=o.p.n1;have ak:(yy c s).k=s.k+1:=rfl;have hm:=h.nw s.k (Int.le_refl _);have nx:=zhj (c:=c) (s:=yy c s) (snd:=snd) (n:=s.k) (a:=s.b) (t:=0) (xs:=qa s.k es) (by rw[hm];exact Tk.nil) (Int.le_refl _) (by omega);rw[show(yy c s).b=b from eb,show(yy c s).w=s.w from rfl]at nx;generalize hx:E4.mk b (yv c (yy c s) snd s.k s.b 0).2=x at *;have xn:x.e.n=s.k:=by rw[<-hx];exact tn
 have xb:x.b=b:=by rw[<-hx]
 generalize hs2:(yv c (yy c s) snd s.k s.b 0).1=s2 at *;have same:∀n:Int,n≠s.k->qa n (es ++ [x])=qa n es:=λn hn=>by rw[jk,if_neg (λz=>hn (z.symm.trans xn))]
 have own:qa s.k (es ++ [x])=qa s.k es ++ [x]:=by rw[jk,if_pos xn]
 have ne_w:∀e∈s.w,e.n≠s.k:=λe he z=>by have:=(M.en e he).2.2.2.2.1;omega
 have k2:s2.k=s.k+1:=tb.2.trans ak;refine⟨λq hq=>(by cases hq),λe he=>?_,?_,List.Pairwise.nil,λi hi=>?_,λn hn=>?_,λy hy=>?_,zko h.so λy hy=>?_,λq hq=>(by cases hq),λy hy hyb=>?_,λy hy=>?_⟩
 ·rcases nx with⟨d,e1,t1⟩ |⟨e1,_⟩
  ·rw[e1]at he;rcases List.mem_append.mp he with he|he
   ·rw[same _ (ne_w e he)];exact h.ws e he
   ·rw[List.mem_singleton.mp he,own];exact t1
  ·rw[e1]at he;rw[same _ (ne_w e he)];exact h.ws e he
 ·have nd:=h.nd;rw[List.map_nil,List.nil_append]at nd ⊢;rcases nx with⟨d,e1,t1⟩ |⟨e1,_⟩
  ·rw[e1,List.map_append,List.map_singleton];refine(List.perm_append_comm (l₁:=[s.k])).nodup_iff.mp (List.nodup_cons.mpr ⟨λz=>?_,nd⟩);obtain⟨e,he,z⟩:=List.mem_map.mp z;exact ne_w e he z
  ·rw[e1];exact nd
 ·rw[k2]at hi
  by_cases z:(i:Int)=s.k
  ·rcases nx with⟨d,e1,t1⟩ |⟨e1,t1⟩
   ·exact .inr (.inl ⟨_,by rw[e1];exact List.mem_append_right _ (List.mem_singleton.mpr rfl),z.symm⟩)
   ·refine .inr (.inr ⟨s.b,by rw[show i=s.k.toNat by omega,ha,eb],?_⟩);rw[z,own];exact t1
  ·rcases h.cl i (by omega) with⟨q,hq,e⟩ |⟨e,he,e2⟩ |⟨a,h1,h2⟩
   ·cases hq
   ·refine .inr (.inl ⟨e,?_,e2⟩);rcases nx with⟨d,e1,_⟩ |⟨e1,_⟩
    ·rw[e1];exact List.mem_append_left _ he
    ·rw[e1];exact he
   ·exact .inr (.inr ⟨a,h1,by rw[same _ z];exact h2⟩)
 ·rw[k2]at hn;rw[same n (by omega)];exact h.nw n (by omega)
 ·rcases List.mem_append.mp hy with hy|hy
  ·exact h.lt y hy
  ·rw[List.mem_singleton.mp hy,xb];exact Int.le_refl _
 ·rcases Int.lt_or_le y.b b with z|z
  ·exact zrn (by rw[xb];exact z)
  ·have yb:y.b=b:=Int.le_antisymm (h.lt y hy) z;have xf:fl0 as x=1:=by unfold fl0;rw[if_pos (by rw[xn,xb];exact ha)]
   rcases zwl as y with f|f
   ·exact zwk (by rw[xb,yb]) (by rw[xf,f];decide)
   ·exact zro (by rw[xb,yb]) (by rw[xf,f]) (by rw[xn];exact h.kz y hy yb)
 ·rw[k2];rcases List.mem_append.mp hy with hy|hy
  ·have:=h.kz y hy hyb;omega
  ·rw[List.mem_singleton.mp hy,xn];omega
 ·rcases List.mem_append.mp hy with hy|hy
  ·exact h.n0 y hy
  ·rw[List.mem_singleton.mp hy,xn];exact k0
theorem zqt{st:Sn}{e:En}(h:e∈st.w)(hd:e.d<=st.b):⟨e.n,e.b,e.t⟩∈xa st:=by
 unfold xa;exact(yu Tr.of_l _).mem_iff.mpr (List.mem_map.mpr ⟨e,List.mem_filter.mpr ⟨h,decide_eq_true hd⟩,rfl⟩)
theorem zor(st:Sn):((xa st).map (·.n)++(xc st).w.map (·.n)).Perm (st.w.map (·.n)):=by
 have h1:((xa st).map (·.n)).Perm ((st.w.filter λe=>decide (e.d<=st.b)).map (·.n)):=by
  unfold xa;refine((yu Tr.of_l _).map (·.n)).trans ?_;rw[List.map_map];exact List.Perm.refl _
 have h2:(xc st).w=st.w.filter λe=>!decide (e.d<=st.b):=by
  show st.w.filter (λe=>decide (st.b<e.d))=_;congr 1
  funext e
  rw[<-decide_not];exact decide_eq_decide.mpr Int.not_le.symm
 rw[h2];refine(h1.append_right _).trans ?_;rw[<-List.map_append];exact(List.filter_append_perm _ _).map _
theorem zub{st:Sn}(nd:((xa st).map (·.n)).Nodup):((xa st).map (·.n)).Pairwise (· < ·):=by
 have h1:=zen Tr.of_l ((st.w.filter λe=>decide (e.d<=st.b)).map λe=>(⟨e.n,e.b,e.t⟩:Tr));have h2:(xa st).Pairwise λa b=>¬ b.l<a.l:=List.pairwise_map.mp h1;have h3:(xa st).Pairwise λa b=>a.n≠b.n:=List.pairwise_map.mp nd;refine List.pairwise_map.mpr ((h2.and h3).imp λ{a b} h=>?_);rcases Int.lt_or_le a.n b.n with z|z
 ·exact z
 ·exact absurd (List.Lex.rel (show b.n<a.n from Int.lt_iff_le_and_ne.mpr ⟨z,λy=>h.2 y.symm⟩)) h.1
theorem zkp{c:Cl}(o:c.Ok){as:List Int}(A:Ask as){sd:Int->Bool}{st:Sn}{es:List E4}{b:Int}(G:Gd c as st)(h:Iv c as st es)(hb:nxL st as=some b):
  Iv c as (y8 c as sd st b).1 (es++(y8 c as sd st b).2.map (E4.mk b)):=by
 obtain⟨n1,_,n3,_⟩:=xt o A G hb;have pm:=zor { st with b:=b };have nd:((xa { st with b:=b }).map (·.n)++(xc { st with b:=b }).w.map (·.n)).Nodup:=pm.nodup_iff.mpr h.nd;obtain⟨s,M,q,e⟩:=v5 o A (sd:=sd) G hb (λrs m s es'=>Im c as b rs s (es++es'.map (E4.mk b)))
  (by
   rw[List.map_nil,List.append_nil];have kk:(xc { st with b:=b }).k=st.k:=rfl;refine⟨λr hr=>?_,λe he=>h.ws e (List.mem_filter.mp he).1,nd,zub (List.nodup_append.mp nd).1,λi hi=>?_,h.nw,λx hx=>?_,h.so,λr hr x hx hxb=>?_,λx hx hxb=>?_,h.n0⟩
   ·obtain⟨e,he,hd,rfl⟩:=zkl hr;have he':e∈st.w:=he;have hd':e.d<=b:=hd;have ed:e.d=b:=Int.le_antisymm hd' (n3 e he');obtain⟨_,_,_,p4,p5,p6⟩:=G.en e he';have t:=h.ws e he';rw[ed]at t;exact⟨t,by have:=G.lo e.n.toNat (by omega) e.b p6;simp only[];omega⟩
   ·rcases h.cl i hi with⟨e,he,hn⟩|z
    ·by_cases hd:e.d<=b
     ·exact .inl ⟨_,zqt (st:={ st with b:=b }) he hd,hn⟩
     ·exact .inr (.inl ⟨e,List.mem_filter.mpr ⟨he,decide_eq_true (Int.lt_of_not_ge hd)⟩,hn⟩)
    ·exact .inr (.inr z)
   ·have:=h.lt x hx;omega
   ·have:=h.lt x hx;omega
   ·have:=h.lt x hx;omega)
  (λr rs m s es' M q=>by
   rw[List.map_append,<-List.append_assoc,List.map_singleton];exact zt9 o M q)
  (λm s es' M ha q=>by
   rw[List.map_append,<-List.append_assoc,List.map_singleton];exact zua o M ha q)
 rw[e];have p2:=yu En.of_l s.w;refine⟨λx hx=>q.ws x (p2.mem_iff.mp hx),(p2.map (·.n)).nodup_iff.mpr (by have:=q.nd;rwa [List.map_nil,List.nil_append]at this),λi hi=>?_,q.nw,λx hx=>?_,q.so,q.n0⟩
 ·rcases q.cl i hi with⟨r,hr,_⟩ |⟨x,hx,hn⟩|z
  ·cases hr
  ·exact .inl ⟨x,p2.mem_iff.mpr hx,hn⟩
  ·exact .inr z
 ·have:=q.lt x hx;simp only[];omega
theorem jl{c:Cl}{as:List Int}{sd:Int->Bool}:∀(m j:Nat) (st:Sn) (es:List E4),evF c as sd (m+j) st es=evF c as sd j (evF c as sd m st es).1 (evF c as sd m st es).2
 |0,j,st,es=>by rw[Nat.zero_add];rfl
 |m+1,j,st,es=>by
  rw[show m+1+j=(m+j)+1 by omega];simp only[evF]
  cases h:nxL st as with
  |none=>exact(zar h j).symm
  |some b=>exact jl m j _ _
theorem zkq{c:Cl}{as:List Int}{sd:Int->Bool}:∀(m:Nat) (st:Sn) (es:List E4),∃more,(evF c as sd m st es).2=es++more
 |0,st,es=>⟨[],(List.append_nil _).symm⟩
 |m+1,st,es=>by
  simp only[evF]
  cases h:nxL st as with
  |none=>exact⟨[],(List.append_nil _).symm⟩
  |some b=>
   obtain⟨more,e⟩:=zkq (c:=c) (as:=as) (sd:=sd) m (y8 c as sd st b).1 (es++(y8 c as sd st b).2.map (E4.mk b));exact⟨_,e.trans (List.append_assoc _ _ _)⟩
structure Cg(c:Cl)(s:Sn):Prop where
 c1:s.c<=c.u.c
 g:s.g.Gd c.g
theorem zwm{g:Gt}(o:g.Ok){s:Sg}(h:s.Gd g){b:Int}(hb:0<=b/\b<=1000000){snd:Bool}:(j8 g s b snd).2.Gd g:=by
 unfold j8
 split
 ·exact zwj o hb (zoq o h)
 ·exact zoq o h
theorem zuc(c:Cl)(s:Sn)(snd:Bool)(n b t:Int):(yv c s snd n b t).1.g=(j8 c.g s.g s.b snd).2:=by
 unfold yv
 split
 ·rfl
 ·simp only[zfs]
  split <;> rfl
theorem zos{c:Cl}(o:c.Ok){s:Sn}(h:Cg c s)(hb:0<=s.b/\s.b<=1000000){snd:Bool}{n b t:Int}:Cg c (yv c s snd n b t).1:=by
 have p1:=o.u.p1;have c1:=h.c1;refine⟨?_,by rw[zuc];exact zwm o.g h.g hb⟩;rcases (xm o s snd n b t).2 with⟨_,e,_⟩ |⟨d,_,_,_,_,_,_,_,e⟩
 ·rw[e];exact c1
 ·rw[e];omega
theorem zqu{c:Cl}(o:c.Ok){as:List Int}(A:Ask as){sd:Int->Bool}{st:Sn}{b:Int}(G:Gd c as st)(h:Cg c st)(hb:nxL st as=some b):Cg c (y8 c as sd st b).1:=by
 obtain⟨n1,n2,_⟩:=xt o A G hb;obtain⟨s,M,q,e⟩:=v5 o A (sd:=sd) G hb (λrs m s es'=>Cg c s) ⟨h.c1,h.g⟩
  (λr rs m s es' M q=>zos o q (by have:=M.eb;have:=M.ok.b1;omega))
  (λm s es' M ha q=>zos (s:=yy c s) o ⟨Int.min_le_right _ _,q.g⟩ (by
   have e1:(yy c s).b=s.b:=rfl;rw[e1];have:=M.eb;have:=M.ok.b1;omega))
 rw[e];exact⟨q.c1,q.g⟩
theorem zqv{c:Cl}(o:c.Ok){as:List Int}(A:Ask as){sd:Int->Bool}{st:Sn}{b:Int}(G:Gd c as st)(hb:nxL st as=some b):(y8 c as sd st b).1.k=st.k+as.count b:=by
 obtain⟨s,M,_,e⟩:=v5 o A (sd:=sd) G hb (λ_ _ _ _=>True) trivial (λ_ _ _ _ _ _ _=>trivial) λ_ _ _ _ _ _=>trivial;rw[e];have:=M.k;simp only[];omega
theorem zl0{α:Type}{l:α->List Int}{of:List Int->α}(h:∀a,of (l a)=a){xs:List α}(hp:(xs.map l).Pairwise λa b=>¬ b<a):wc l of xs=xs:=by
 unfold wc;rw[<-qg (List.Perm.refl _) hp,List.map_map];exact(List.map_congr_left λa _=>h a).trans (List.map_id _)
structure Bb(c:Cl)(as:List Int)(sd:Int->Bool)(b:Int)(st:Sn)(es:List E4):Prop where
 m:∃m,evF c as sd m (x0 c) []=(st,es)
 G:Gd c as st
 I:Iv c as st es
 C:Cg c st
 lb:st.b<=b
 nx:∀b',nxL st as=some b'->b<=b'
theorem zhk{c:Cl}(o:c.Ok){as:List Int}(A:Ask as){sd:Int->Bool}:Bb c as sd 0 (x0 c) []:=by
 have:=o.u.f2;have:=o.g.f1;have G:=wz o A;refine⟨⟨0,rfl⟩,G,⟨λe he=>(by cases he),List.Pairwise.nil,λi hi=>absurd hi (show ¬ ((i:Int)<0) by omega),λn hn=>rfl,λx hx=>(by cases hx),List.Pairwise.nil,λx hx=>(by cases hx)⟩,⟨o.u.f2,⟨Int.le_refl _,by omega⟩⟩,Int.le_refl _,λb' h=>(xt o A G h).1⟩
theorem zqw{c:Cl}(o:c.Ok){as:List Int}(A:Ask as){sd:Int->Bool}{b:Int}{st:Sn}{es:List E4}(h:Bb c as sd b st es)(hn:nxL st as≠some b):(∀e∈st.w,b<e.d)/\as.count b=0:=by
 cases hx:nxL st as with
 |none=>
  obtain⟨w,d⟩:=zb8 hx;refine⟨λe he=>(by rw[w]at he;cases he),List.count_eq_zero.mpr λhm=>?_⟩;obtain⟨i,hi⟩:=List.mem_iff_getElem?.mp hm;have hl:=(List.getElem?_eq_some_iff.mp hi).1;have:=List.drop_eq_nil_iff.mp d;have:=h.G.lo i (by omega) b hi;have:=h.lb;omega
 |some b'=>
  obtain⟨n1,n2,n3,n4,_⟩:=xt o A h.G hx;have hb:=h.nx b' hx;have hne:b'≠b:=λz=>hn (by rw[hx,z]);refine⟨λe he=>by have:=n3 e he;omega,List.count_eq_zero.mpr λhm=>?_⟩;obtain⟨i,hi⟩:=List.mem_iff_getElem?.mp hm;rcases Nat.lt_or_ge i st.k.toNat with z|z
  ·have:=h.G.lo i z b hi;have:=h.lb;omega
  ·have:=n4 i z b hi;omega
theorem zqx{c:Cl}(o:c.Ok){as:List Int}(A:Ask as){sd:Int->Bool}{b:Int}{st:Sn}{es:List E4}(h:Bb c as sd b st es):
  ∃st' evs,Bb c as sd (b+1) st' (es++evs.map (E4.mk b))/\zc4 c { st with b:=b } (sd b) (as.count b)=({ st' with b:=b+1 },evs)/\st'.k=st.k+as.count b:=by
 by_cases hn:nxL st as=some b
 ·obtain⟨m,hm⟩:=h.m;refine⟨(y8 c as sd st b).1,(y8 c as sd st b).2,⟨⟨m+1,?_⟩,zaq o A h.G hn,zkp o A h.G h.I hn,zqu o A h.G h.C hn,Int.le_refl _,λb' hb'=>?_⟩,rfl,zqv o A h.G hn⟩
  ·rw[jl,hm];simp only[evF,hn]
  ·exact(xt o A (zaq o A (sd:=sd) h.G hn) hb').1
 ·obtain⟨h1,h2⟩:=zqw o A h hn;refine⟨st,[],⟨by rw[List.map_nil,List.append_nil];exact h.m,h.G,by rw[List.map_nil,List.append_nil];exact h.I,h.C,by have:=h.lb;omega,λb' hb'=>?_⟩,?_,by rw[h2];omega⟩
  ·have:=h.nx b' hb';have:b'≠b:=λz=>hn (by rw[hb',z]);omega
  ·have f1:st.w.filter (λe=>decide (e.d<=b)) = []:=List.filter_eq_nil_iff.mpr λe he=>by
    have:=h1 e he;simp only[decide_eq_true_eq];omega
   have f2:st.w.filter (λe=>decide (b<e.d))=st.w:=List.filter_eq_self.mpr λe he=>decide_eq_true (h1 e he);have d0:xa { st with b:=b } = []:=by
    unfold xa;simp only[];rw[f1];exact List.perm_nil.mp (yu Tr.of_l [])
   have r0:xc { st with b:=b } = { st with b:=b }:=by
    unfold xc;simp only[];rw[f2]
   unfold zc4;rw[d0,r0,h2];simp only[qx,zdn];rw[zl0 En.of_l h.G.so]
theorem zud{c:Cl}(o:c.Ok){as:List Int}(A:Ask as){sd:Int->Bool}{b:Int}{st:Sn}{es:List E4}(h:Bb c as sd b st es)(hl:∀x∈(zbl c as sd).2,x.b<b):st.w = []/\st.k=as.length/\es=(zbl c as sd).2:=by
 obtain⟨m,hm⟩:=h.m;have hN:=zjd o A (sd:=sd) (as.length * c.p.n.toNat) (x0 c) [] (wz o A) (by simp[phi,x0]);have er:zbl c as sd=evF c as sd (as.length * c.p.n.toNat) (x0 c) []:=rfl;rw[<-er]at hN;generalize as.length * c.p.n.toNat=N at *;have over:N<=m->(st,es)=zbl c as sd:=λz=>by
  obtain⟨j,rfl⟩:∃j,m=N+j:=⟨m-N,by omega⟩
  rw[<-hm,jl,<-er,zar hN j]
 cases hx:nxL st as with
 |none=>
  obtain⟨w,d⟩:=zb8 hx;have:=List.drop_eq_nil_iff.mp d;have:=h.G.k1;have:=h.G.k0;refine⟨w,by omega,?_⟩;rcases Nat.le_total N m with z|z
  ·exact congrArg Prod.snd (over z)
  ·obtain⟨j,rfl⟩:∃j,N=m+j:=⟨N-m,by omega⟩
   rw[er,jl,hm,zar hx j]
 |some b'=>
  exfalso;have hb:=h.nx b' hx;rcases Nat.lt_or_ge m N with z|z
  ·obtain⟨j,rfl⟩:∃j,N=m+1+j:=⟨N-(m+1),by omega⟩
   have e1:evF c as sd (m+1) (x0 c) []=((y8 c as sd st b').1,es++(y8 c as sd st b').2.map (E4.mk b')):=by
    rw[jl,hm];simp only[evF,hx]
   rw[er,jl,e1]at hl;obtain⟨more,e2⟩:=zkq (c:=c) (as:=as) (sd:=sd) j (y8 c as sd st b').1 (es++(y8 c as sd st b').2.map (E4.mk b'));rw[e2]at hl;obtain⟨y,hy⟩:=List.exists_mem_of_length_pos (v6 o A (sd:=sd) h.G hx).2;have:=hl (E4.mk b' y) (List.mem_append_left _ (List.mem_append_right _ (List.mem_map_of_mem hy)));simp only[]at this;omega
  ·have:=over z;rw[<-this]at hN;rw[hx]at hN
   cases hN
theorem zx1{c:Cl}(o:c.Ok){as:List Int}(A:Ask as){sd:Int->Bool}{b:Int}{st:Sn}{es:List E4}(h:Bb c as sd b st es):∀e∈st.w,b<=e.d:=λe he=>by
 cases hx:nxL st as with
 |none=>rw[(zb8 hx).1]at he;cases he
 |some b'=>
  have:=(xt o A h.G hx).2.2.1 e he;have:=h.nx b' hx;omega
theorem zue{c:Cl}(o:c.Ok){as:List Int}(A:Ask as){sd:Int->Bool}{b:Int}{st:Sn}{es:List E4}(h:Bb c as sd b st es):es.length<=as.length * c.p.n.toNat:=by
 obtain⟨m,hm⟩:=h.m;have:=(zjc o A (sd:=sd) (λst es=>es.length+phi c as st<=as.length * c.p.n.toNat) (λst es b G p h=>by
  have:=(v6 o A (sd:=sd) G h).1;rw[List.length_append,List.length_map];omega) m (x0 c) [] (wz o A) (by simp[phi,x0])).2
 rw[hm]at this;have e:(st,es).2=es:=rfl;rw[e]at this;omega
theorem zuf{c:Cl}(o:c.Ok){as:List Int}(A:Ask as){sd:Int->Bool}:∀x∈(zbl c as sd).2,x.b<=801000:=by
 obtain⟨st,G,p,hw,hk⟩:=zft o A (sd:=sd) (λst es=>Iv c as st es) (zhk o A (sd:=sd)).I λst es b G p h=>zkp o A G p h;intro x hx;have:=p.lt x hx;have:=G.bb;omega
theorem zdd(b:Int):∀as:List Int,(as.filterMap λa=>if a=b then some (PyData.int a) else none).length=as.count b
 |[]=>rfl
 |a::as=>by
  rw[List.filterMap_cons,List.count_cons]
  by_cases z:a=b
  ·rw[if_pos z,List.length_cons,zdd b as,if_pos (beq_iff_eq.mpr z)]
  ·rw[if_neg z,zdd b as,if_neg (λh=>z (eq_of_beq h))];rfl
end
section
variable {P:Program}{w:World}{K:PySem.W.Frag}{mg:Str->Option Value}{base:Heap}{f:Addr}{fd:FuncData}
def k6:DSp:=λws Q=>∃(s:List (Int×Int)) (b:Int),ws = [.val (.tuple (s.map pD)),.val (.int b)]/\s.length<=10000/\Q (.val (.bool (w6 s b)))
theorem zde(B:Blt mg)(F:Fun K "_law_silent" "_law_silent" vt f fd):FnOk P w K mg base CX0 1 f fd ["_law_story", "_law_beat"] (ya K k6):=by
 refine F.dok zc0 (λws Q h=>?_) (λcdv A outer s H ws Q E hr h=>?_)
 ·obtain⟨s,b,rfl,_⟩:=h;rfl
 obtain⟨s,b,rfl,hl,q⟩:=h;refine⟨_,(zj (zr (yt (zrd rfl) rfl B.any boot_any (zt (DE.dv (DF.de (ql rfl (N':=["_law_first", "_law_last", "_law_beat"]) (capt:=["_law_beat"]) (k:=2) (js:=[1]) ⟨rfl,by decide,rfl,by decide,(.cons rfl .nil),rfl,(.cons rfl (Or.inl rfl) rfl (Or.inl rfl) .nil),rfl,by decide⟩ (xx (zb 0)) (λ_ _ _ _=>(yq (n:=2) rfl (ze (zg (i:=0) (show List.Nodup (["_law_first", "_law_last", "_law_beat"]:List Str) by decide +kernel) rfl (Or.inl rfl) (Or.inr rfl)) (ze (zg (i:=1) (show List.Nodup (["_law_first", "_law_last", "_law_beat"]:List Str) by decide +kernel) rfl (Or.inl rfl) (Or.inr rfl)) yh)))) (λ_ _ _ _=>wg) (λ_ _ _ _=>(zcj zck ze0 (zb 0) (zb 2) (zb 1)))))) z9)))),?_⟩;walk_at "ds";rw[List.length_map];refine⟨by omega,xq pD (λr=>.bool (decide (r.1<=b/\b<r.2))) (λr hr k hk=>?_) ⟨s.map λr=>decide (r.1<=b/\b<r.2),?_,?_⟩⟩
 ·simp only[pD];walk_at "ds"
  split
  ·next c=>simpa[c]using hk
  ·next c=>simpa[c]using hk
 ·have:=jx (s.map λr=>decide (r.1<=b/\b<r.2));rw[List.map_map]at this;exact this
 ·rw[List.any_map];exact q
theorem zwn(e:En):e.l ≠ []:=λz=>nomatch z
theorem zqy{α:Type}(a b c d e:α)(l:List α):atI (a::b::c::d::e::l) 4=some e:=k8 (j:=4) rfl
theorem zot{w:List En}(h:(w.map (·.n)).Nodup):(w.map En.l).Nodup:=List.pairwise_map.mpr ((List.pairwise_map.mp h).imp λ{a b} hab z=>by
 unfold En.l at z;injection z with _ z
 injection z with z _
 exact hab z)
theorem zug(e:En):Lay e.D/\e.D.depth<=63:=⟨jd _,Nat.le_of_ble_eq_true rfl⟩
def k7:DSp:=λws Q=>∃(c:Cl) (as:List Int) (sd:Int->Bool) (b:Int) (st:Sn) (es:List E4),ws = [.val c.D,.val ({ st with b:=b }:Sn).D,.val (.int b),.val (.int st.k)]/\c.Ok/\as.length<=15/\Bb c as sd b st es/\(∀e∈st.w,b<=e.d)/\Q (.val (.bool true))
theorem zdf(B:Blt mg)(F:Fun K "_law_stands" "_law_stands" vv f fd)(C_standing_good:Cal P w K mg base 4 "standing_good" ["gate", "thing"] (ya K v7)):FnOk P w K mg base CX0 5 f fd ["_law_caller_here", "_law_standing", "_law_beat", "_law_begun"] (ya K k7):=by
 refine F.dok sc__law_stands (λws Q h=>?_) (λcdv A outer s H ws Q E hr h=>?_)
 ·obtain⟨c,as,sd,b,st,es,rfl,_⟩:=h;rfl
 obtain⟨c,as,sd,b,st,es,rfl,o,ln,h,hw,q⟩:=h;have G:=h.G;have k1:=G.k1;have wl:=G.wl;simp only[Sn.D];refine⟨_,(zd (yw (DWt.dt (jq (x8 (wo (DE.dv (za0 (n := "tuple") ze1 rfl B.isinstance boot_isinstance (zb 1) rfl B.tupleT boot_tuple)))) (jq (yk (zcl hr) (DE.dv (yt zab rfl B.len PySem.boot_len (zt (zb 1) z9))) (DE.dv zc) (yg _)) (jq (yk (zcl hr) (DE.dv (yd (zb 1) zc (λ_ _=>rfl))) (zb 2) (yg _)) (zay (yk (zcl hr) (DE.dv (yd (zb 1) zc (λ_ _=>rfl))) (zb 3) (yg _))))))) (zj (zr xl)) ye) (zd (yw (DWt.dt (jq (yk (zcl hr) (DE.dv (DF.de (zd3 zmv rfl B.listT boot_list (zt (DE.dv (yd (zb 1) zc (λ_ _=>rfl))) z9)))) (DE.dv (DF.de (zg0 hr rfl B.sorted rfl B.setT rfl (za (yd (zb 1) zc (λ_ _=>rfl)) zn)))) (yg _)) (zay (x8 (zaa zck zck (DE.dv zc) (DE.dv (yd (zb 1) zc (λ_ _=>rfl))) (DE.dv (yd (DE.dv (yd (zb 0) zc (λ_ _=>rfl))) zc (λ_ _=>rfl)))))))) (zj (zr xl)) ye) (zd (yw (yk ztt (DE.dv (zh C_standing_good hr rfl (zq (yd (zb 0) zc (λ_ _=>rfl)) (zq (yd (zb 1) zc (λ_ _=>rfl)) zo)))) (DE.dv xl) (yg _)) (zj (zr xl)) ye) (zd (ka PassesOwn.never rfl (ze5 (yd (zb 1) zc (λ_ _=>rfl))) (yq (n:=4) rfl (ze (zg (i:=4) sc__law_stands.nd rfl (Or.inl rfl)) (ze (zg (i:=5) sc__law_stands.nd rfl (Or.inl rfl)) (ze (zg (i:=6) sc__law_stands.nd rfl (Or.inl rfl)) (ze (zg (i:=7) sc__law_stands.nd rfl (Or.inl rfl)) yh))))) (zj (yw (DWt.dt (jq (x8 (zaa zck zck (zb 2) (zb 4) (DE.dv (z0 yj (zb 6) (DE.dv (yd (DE.dv (yd (zb 0) zc (λ_ _=>rfl))) zc (λ_ _=>rfl))))))) (jq (x8 (zaa zck ze0 (DE.dv zc) (zb 5) (zb 3))) (zay (x8 (zaa zck ze0 (DE.dv zc) (zb 7) (DE.dv (yd (DE.dv (yd (zb 0) zc (λ_ _=>rfl))) zc (λ_ _=>rfl))))))))) (zj (zr xl)) ye))) (zj (zr (zh2 (qz hr) (DE.dv (zi1 hr rfl B.len rfl B.setT rfl (zt (DE.dv (DF.de (ql rfl (N':=["_law_one"]) (capt:=[]) (k:=1) (js:=[]) ⟨rfl,by decide,rfl,by decide,.nil,rfl,.nil,rfl,by decide⟩ (xx (DE.dv (yd (zb 1) zc (λ_ _=>rfl)))) (λ_ _ _ _=>(zg (i:=0) (show List.Nodup (["_law_one"]:List Str) by decide +kernel) rfl (Or.inl rfl) (Or.inr rfl))) (λ_ _ _ _=>wg) (λ_ _ _ _=>(yd (zb 0) zc (λ_ _=>rfl)))))) z9))) (DE.dv (yt zab rfl B.len PySem.boot_len (zt (DE.dv (yd (zb 1) zc (λ_ _=>rfl))) z9))) (yg _)))))))),?_⟩
 walk_at "ds";have ek:st.w.map En.D=(st.w.map En.l).map tD:=by rw[List.map_map];rfl
 have es0:qo (st.w.map En.l)=st.w.map En.l:=(qg (List.Perm.refl _) G.so).symm;have lk:Lay (.list ((st.w.map En.l).map tD)):=by
  rw[<-ek];exact Lay.list λy hy=>by
   obtain⟨e,_,rfl⟩:=List.mem_map.mp hy;exact zug e
 have cc:=G.ok.c1;have cd:=h.C.c1;rw[if_neg (λh=>h rfl)];refine⟨_,yr _ _,?_⟩;walk_at "ds";rw[if_neg (λh=>h trivial)];refine⟨_,zqy _ _ _ _ _ _,?_⟩;walk_at "ds";rw[if_neg (λh=>h trivial)];refine⟨_,y7 _ _ _,?_⟩;walk_at "ds";refine⟨_,y7 _ _ _,?_⟩;walk_at "ds";refine⟨st.w.map En.l,ek,by rw[List.length_map];omega,zot h.I.nd,λt ht=>(by obtain⟨e,_,rfl⟩:=List.mem_map.mp ht;exact zwn e),?_⟩;rw[es0,ek];refine⟨lk,lk,?_⟩;rw[zcn lk,if_neg (λh=>nomatch h),<-ek];refine⟨_,jc _ _ _ _,?_⟩;simp only[Cl.D];walk_at "ds";rw[if_pos cc];refine⟨_,y7 _ _ _,?_⟩;simp only[Ps.D];walk_at "ds";refine⟨_,jc _ _ _ _,?_⟩;walk_at "ds";rw[if_neg (λh=>h cd)];refine⟨_,jc _ _ _ _,_,zd7 _ _ _ _ _,c.g,st.g,rfl,o.g,h.C.g,?_⟩;walk_at "ds";refine⟨_,y7 _ _ _,?_⟩;walk_at "ds";refine xp (λds σ=>∃(w:List En) (u4 u5 u6 u7:Option W),(∀e∈w,e∈st.w)/\ds=w.map En.D/\σ = [some (.val (.tuple [c.p.D,.tuple [.int c.u.a,.int c.u.p,.int c.u.c,.int c.u.f],c.g.D])),some (.val (.tuple [.int b,.tuple (st.w.map En.D),.int st.c,st.g.D,.int st.k])),some (.val (.int b)),some (.val (.int st.k)),u4,u5,u6,u7]) ?_ ?_ ⟨st.w,_,_,_,_,λ_ h=>h,rfl,rfl⟩
 ·rintro d ds σ N ⟨w,u4,u5,u6,u7,hm,e,rfl⟩ k
  cases w with
  |nil=>cases e
  |cons x w=>
   cases e;have hx:=hm x List.mem_cons_self;have x1:=hw x hx;obtain⟨_,x2,_,x4,x5,_⟩:=G.en x hx;have xo:=G.ok.w x hx;have x6:=xo.t1;have x7:=xo.t2;simp only[En.D,tD,En.l,List.map_cons,List.map_nil,Pl.D];walk_at "ds";rw[if_pos x1];refine⟨_,yr _ _,?_⟩;walk_at "ds";refine⟨_,jc _ _ _ _,?_⟩;walk_at "ds";rw[if_neg (λh=>h x2),if_pos x4,if_neg (λh=>h x5),if_pos x6];refine⟨_,yr _ _,?_⟩;walk_at "ds";refine⟨_,y7 _ _ _,?_⟩;walk_at "ds";rw[if_neg (λh=>h x7)];exact k _ ⟨w,_,_,_,_,λe he=>hm e (List.mem_cons_of_mem _ he),rfl,rfl⟩
 ·rintro σ ⟨w,u4,u5,u6,u7,hm,e,rfl⟩;walk_at "ds";refine⟨_,y7 _ _ _,?_⟩;walk_at "ds";refine⟨by rw[List.length_map];omega,xq En.D (λe=>.int e.n) (λe he kk hk=>?_) ?_⟩
  ·simp only[En.D,tD,En.l,List.map_cons,List.map_nil];walk_at "ds";exact⟨_,y7 _ _ _,hk⟩
  refine⟨st.w.map (·.n),by rw[List.map_map];rfl,by rw[List.length_map];omega,h.I.nd,?_⟩;refine⟨_,y7 _ _ _,?_⟩;walk_at "ds";rw[decide_eq_true (by rw[List.length_map,List.length_map])];exact q
end
section
variable {P:Program}{w:World}{K:PySem.W.Frag}{mg:Str->Option Value}{base:Heap}{f:Addr}{fd:FuncData}
theorem zuh(x:E4):Lay x.D/\x.D.depth<=63:=by
 rcases x with⟨b,⟨n,w,t⟩⟩;refine⟨Lay.tuple λy hy=>?_,?_⟩
 ·simp only[List.mem_cons,List.not_mem_nil,or_false]at hy;rcases hy with rfl|rfl|rfl|rfl
  ·exact⟨Lay.int b,Nat.zero_le _⟩
  ·exact⟨Lay.int n,Nat.zero_le _⟩
  ·rcases w with _|_|_ <;> exact⟨(by show SeqAt.shaped _=true;decide +kernel),Nat.le_of_ble_eq_true rfl⟩
  ·cases t with
   |due d=>exact⟨Lay.int d,Nat.zero_le _⟩
   |_=>exact⟨(by show SeqAt.shaped _=true;decide +kernel),by decide +kernel⟩
 ·rcases w with _|_|_ <;> cases t <;> exact Nat.le_of_ble_eq_true rfl
theorem zui(B:Blt mg)(F:Fun K "law" "law" zog f fd)(C_first_of:Cal P w K mg base 1 "first_of" ["caller"] (ya K kr))(C_stepped:Cal P w K mg base 5 "stepped" ["caller", "standing", "sound", "many"] (ya K h7))(C_gone:Cal P w K mg base 7 "gone" ["caller", "askings", "story"] (ya K zkn))(C__law_cell_at:Cal P w K mg base 1 "_law_cell_at" ["_law_script", "_law_k"] (ya K qu))(C__law_pen_of:Cal P w K mg base 1 "_law_pen_of" ["_law_cell"] (ya K km))(C__law_played:Cal P w K mg base 5 "_law_played" ["_law_pen"] (ya K ky))(C__law_silent:Cal P w K mg base 1 "_law_silent" ["_law_story", "_law_beat"] (ya K k6))(C__law_stands:Cal P w K mg base 5 "_law_stands" ["_law_caller_here", "_law_standing", "_law_beat", "_law_begun"] (ya K k7)):FnOk P w K mg base CX0 8 f fd ["_law_script"] (ya K zfq):=by
 refine F.dok sc_law (λws Q h=>?_) (λcdv A outer s H ws Q E hr h=>?_)
 ·obtain⟨ns,rfl,_⟩:=h;rfl
 obtain⟨ns,rfl,h63,q⟩:=h;refine⟨_,(zd (ka PassesOwn.never rfl (ze5 (z0 yj (DE.dv (DF.de (yz (za (zh C__law_cell_at hr rfl (zm 0 (zq zc zo yf))) zn)))) (DE.dv (DF.de (ztc 0 (xw zc) (xw zc)))))) (zg (i:=1) sc_law.nd rfl (Or.inl rfl)) (zd (zpq (i:=2) sc_law.nd rfl (Or.inl rfl) (zpm C__law_pen_of hr rfl (zm 1 zo))) (zd (y3 (zh C__law_played hr rfl (zm 2 zo)) (yq (n:=3) rfl (ze (zg (i:=3) sc_law.nd rfl (Or.inl rfl)) (ze (zg (i:=4) sc_law.nd rfl (Or.inl rfl)) (ze (zg (i:=5) sc_law.nd rfl (Or.inl rfl)) yh))))) (zd (y3 (zh C_gone hr rfl (zm 3 (zm 4 (zm 5 zo)))) (yq (n:=2) rfl (ze (zg (i:=6) sc_law.nd rfl (Or.inl rfl)) (ze (zg (i:=7) sc_law.nd rfl (Or.inl rfl)) yh)))) (zd (yo (i:=8) sc_law.nd rfl (Or.inl rfl) (yt (zto rfl) rfl B.max boot_max (zt (DE.dv (z0 yj (DE.dv (DF.de (yz (za zc zn yf)))) (DE.dv (DF.de (ql rfl (N':=["_law_event"]) (capt:=[]) (k:=1) (js:=[]) ⟨rfl,by decide,rfl,by decide,.nil,rfl,.nil,rfl,by decide⟩ (xx (zb 6)) (λ_ _ _ _=>(zg (i:=0) (show List.Nodup (["_law_event"]:List Str) by decide +kernel) rfl (Or.inl rfl) (Or.inr rfl))) (λ_ _ _ _=>wg) (λ_ _ _ _=>(yd (zb 0) zc (λ_ _=>rfl)))))))) z9))) (zd (zno (i:=9) (j:=10) (k:=11) rfl sc_law.nd rfl rfl rfl (by decide) (by decide) (by decide) rfl rfl rfl (znm (zh C_first_of hr rfl (zm 3 zo)) (ztn (yz zn) (znm zc ztm yf) zxc)) rfl) (zd (ka PassesOwn.never rfl (jb rfl B.range (za (z0 yj (zb 8) (DE.dv zc)) zn)) (zg (i:=12) sc_law.nd rfl (Or.inr rfl)) (zd (yw (x8 (wo (DE.dv (zh C__law_stands hr rfl (zm 3 (zm 9 (zm 12 (zm 11 zo)))))))) (zj (zr xl)) ye) (zd (yo (i:=13) sc_law.nd rfl (Or.inl rfl) (yt zab rfl B.len PySem.boot_len (zt (DE.dv (DF.de (ql rfl (N':=["_law_one", "_law_beat"]) (capt:=["_law_beat"]) (k:=1) (js:=[12]) ⟨rfl,by decide,rfl,by decide,(.cons rfl .nil),rfl,(.cons rfl (Or.inl rfl) rfl (Or.inl rfl) .nil),rfl,by decide⟩ (xx (zb 4)) (λ_ _ _ _=>(zg (i:=0) (show List.Nodup (["_law_one", "_law_beat"]:List Str) by decide +kernel) rfl (Or.inl rfl) (Or.inr rfl))) (λ_ _ _ _=>(ze9 (yk (qz hr) (zb 0) (zb 1) (yg _)))) (λ_ _ _ _=>(zi 0))))) z9))) (zd (y3 (zh C_stepped hr rfl (zm 3 (zm 9 (zq (zh4 (zh C__law_silent hr rfl (zm 5 (zm 12 zo)))) (zm 13 zo))))) (yq (n:=2) rfl (ze (zg (i:=9) sc_law.nd rfl (Or.inl rfl)) (ze (zg (i:=14) sc_law.nd rfl (Or.inl rfl)) yh)))) (zd (zec 10 (ql rfl (N':=["_law_event", "_law_beat"]) (capt:=["_law_beat"]) (k:=1) (js:=[12]) ⟨rfl,by decide,rfl,by decide,(.cons rfl .nil),rfl,(.cons rfl (Or.inl rfl) rfl (Or.inl rfl) .nil),rfl,by decide⟩ (xx (zb 14)) (λ_ _ _ _=>(zg (i:=0) (show List.Nodup (["_law_event", "_law_beat"]:List Str) by decide +kernel) rfl (Or.inl rfl) (Or.inr rfl))) (λ_ _ _ _=>wg) (λ_ _ _ _=>(z0 yj (DE.dv (zw (za (zi 1) zn))) (zb 0))))) (zj (yo (i:=11) sc_law.nd rfl (Or.inl rfl) (z0 yj (zb 11) (zb 13))))))))) (zj (yw (DWt.dt (jq (yk (zcl hr) (DE.dv (xj va rfl B.tupleT boot_tuple (zt (zb 10) z9))) (zb 6) (yg _)) (jq (yk (zcl hr) (DE.dv (yd (zb 9) zc (λ_ _=>rfl))) (DE.dv (zw zn)) (yg _)) (zay (yk (zcl hr) (zb 11) (DE.dv (yt zab rfl B.len PySem.boot_len (zt (zb 4) z9))) (yg _)))))) (zj (zr xl)) ye))))))))) (zj (zr xl))),?_⟩
 walk_at "ds";refine⟨ns,0,rfl,by decide,λv=>?_⟩;obtain⟨ys,ey,_,hy⟩:=zif PyData.int ns (some 1) (some 2);rw[ey,List.length_map];refine⟨by omega,?_⟩;walk_at "ds";refine xp (λds σ=>∃(vs:List Int) (u1 u2 u3 u4 u5 u6 u7 u8 u9 u10 u11 u12 u13 u14:Option W),ds=vs.map PyData.int/\σ = [some (.scr ns),u1,u2,u3,u4,u5,u6,u7,u8,u9,u10,u11,u12,u13,u14]) ?_ ?_ ⟨v::ys,none,none,none,none,none,none,none,none,none,none,none,none,none,none,rfl,rfl⟩
 ·rintro d ds σ N ⟨vs,u1,u2,u3,u4,u5,u6,u7,u8,u9,u10,u11,u12,u13,u14,e,rfl⟩ k
  cases vs with
  |nil=>cases e
  |cons v vs=>
   cases e;refine zj5 (λσ=>σ = [some (.scr ns),some (.val (.int v)),some .pen,u3,u4,u5,u6,u7,u8,u9,u10,u11,u12,u13,u14]) (λN' hN=>?_) ?_
   ·walk_at "ds";refine⟨_,rfl,λa b c=>?_⟩;walk_at "ds";exact⟨⟨a,b,c,rfl⟩,hN _ rfl⟩
   rintro σ rfl;refine zj5 (λσ=>∃(c:Cl) (as:List Int) (s:List (Int×Int)),c.Ok/\c.p.n<=12/\Ask12 as/\zqs s/\σ = [some (.scr ns),some (.val (.int v)),some .pen,some (.val c.D),some (.val (.tuple (as.map PyData.int))),some (.val (.tuple (s.map pD))),u6,u7,u8,u9,u10,u11,u12,u13,u14]) (λN' hN=>?_) ?_
   ·walk_at "ds";refine⟨rfl,λc as s co cn ao so=>?_⟩;walk_at "ds";exact hN _ ⟨c,as,s,co,cn,ao,so,rfl⟩
   rintro σ ⟨c,as,s,co,cn,ao,so,rfl⟩;have ln:=ao.ln;have sl:=so.ln;have A:=ao.ask;walk_at "ds";refine⟨c,as,s,rfl,co,A,by omega,?_⟩;have rl:=zkm co A (sd:=λb=>!w6 s b);have hN0:as.length * c.p.n.toNat<=144:=Nat.le_trans (Nat.mul_le_mul ln (show c.p.n.toNat<=12 by omega)) (by decide);walk_at "ds";have hbb:=zuf co A (sd:=λb=>!w6 s b);refine⟨by rw[List.length_map];omega,xq E4.D (λx=>.int x.b) (λx hx kk hk=>?_) ?_⟩
   ·simp only[E4.D];walk_at "ds";exact⟨_,yr _ _,hk⟩
   generalize hes:(zbl c as λb=>!w6 s b).2=evs at *;have ei:jr (PyData.int 0::evs.map λx=>PyData.int x.b)=some (0::evs.map (·.b)):=by
    have:=zd4 (0::evs.map (·.b))
    rwa [List.map_cons,List.map_map]at this
   refine⟨by rw[List.length_map];omega,_,ei,Nat.zero_lt_succ _,λm hm hmx=>?_⟩;have m0:0<=m:=hmx 0 List.mem_cons_self;have m1:m<=801000:=by
    rcases List.mem_cons.mp hm with z|z
    ·omega
    ·obtain⟨x,hx,rfl⟩:=List.mem_map.mp z;exact hbb x hx
   have m2:∀x∈evs,x.b<=m:=λx hx=>hmx x.b (List.mem_cons_of_mem _ (List.mem_map_of_mem hx));generalize zwi c as (λb=>!w6 s b)=ends;refine⟨c,rfl,?_⟩;walk_at "ds";refine⟨⟨by omega,by omega⟩,?_⟩;refine xp (λds σ=>∃(b n:Nat) (st:Sn) (es:List E4) (u12 u13 u14:Option W),ds=y6 b n/\(b:Int)+n=m+2/\Bb c as (λb=>!w6 s b) b st es/\σ = [some (.scr ns),some (.val (.int v)),some .pen,some (.val c.D),some (.val (.tuple (as.map PyData.int))),some (.val (.tuple (s.map pD))),some (.val (.tuple (evs.map E4.D))),some (.val (.tuple ends)),some (.val (.int m)),some (.val ({ st with b:=(b:Int) }:Sn).D),some (.own (.lst (es.map E4.D))),some (.val (.int st.k)),u12,u13,u14]) ?_ ?_ ⟨0,(m+2).toNat,x0 c,[],_,_,_,rfl,by omega,zhk co A,rfl⟩
   ·rintro d ds σ N2 ⟨b,n,st,es,u12,u13,u14,e,hn,hB,rfl⟩ k2
    cases n with
    |zero=>cases e
    |succ n=>
    rw[vc]at e
    cases e;obtain⟨st',es',hB',e1,e2⟩:=zqx co A hB;have hl:=zue co A hB';rw[List.length_append,List.length_map]at hl;have G:=hB.G;have k0:=G.k0;have k1:=G.k1;have wl:=G.wl;have hc:=List.count_le_length (a:=(b:Int)) (l:=as);walk_at "ds";refine⟨c,as,_,b,st,es,rfl,co,by omega,hB,zx1 co A hB,?_⟩;walk_at "ds";refine⟨by rw[List.length_map];omega,zb6 PyData.int (λa=>if a=(b:Int) then some (PyData.int a) else none) (λa ha kk hk=>?_) ?_⟩
    ·walk_at "ds"
     by_cases z:a=(b:Int)
     ·rw[if_pos z]at hk ⊢;exact hk
     ·rw[if_neg z]at hk ⊢;exact hk
    rw[zdd];walk_at "ds";refine⟨s,b,rfl,by omega,?_⟩;walk_at "ds";refine⟨c,{ st with b:=(b:Int) },!w6 s b,as.count (b:Int),rfl,co,⟨show 0<=(b:Int) by omega,show(b:Int)<=900000 by omega,G.ok.w,G.ok.c1,G.ok.c2,G.ok.g⟩,show st.w.length<=15 by omega,by omega,⟨k0,show st.k<=1000000 by omega⟩,?_⟩;rw[e1];simp only[stD];walk_at "ds";refine⟨by rw[List.length_map];omega,xq Ev.D (λx=>(E4.mk b x).D) (λx hx kk hk=>?_) ?_⟩
    ·simp only[Ev.D];walk_at "ds";exact hk
    refine⟨by rw[List.length_map,List.length_map];omega,?_⟩;have e3:es.map E4.D++es'.map (λx=>(E4.mk (b:Int) x).D)=(es++es'.map (E4.mk b)).map E4.D:=by
     rw[List.map_append,List.map_map];rfl
    rw[e3,<-e2];exact k2 _ ⟨b+1,n,st',es++es'.map (E4.mk b),_,_,_,rfl,by omega,hB',rfl⟩
   ·rintro σ ⟨b,n,st,es,u12,u13,u14,e,hn,hB,rfl⟩
    cases n with
    |succ n=>rw[vc]at e;cases e
    |zero=>
    obtain⟨w0,k0,rfl⟩:=zud co A hB (λx hx=>by rw[hes]at hx;have:=m2 x hx;omega);walk_at "ds";rw[hes];have lt_:Lay (.tuple (evs.map E4.D)):=Lay.tuple λy hy=>by
     obtain⟨z,_,rfl⟩:=List.mem_map.mp hy;exact zuh z
    refine⟨lt_,lt_,?_⟩;rw[zcn lt_,if_neg (λh=>nomatch h)];simp only[Sn.D];walk_at "ds";refine⟨_,y7 _ _ _,?_⟩;rw[w0];walk_at "ds";refine⟨jd [],jd [],?_⟩;rw[show PyData.eqv (.tuple []) (.tuple [])=true from zcn (jd []),if_neg (λh=>nomatch h),if_neg (λh=>h (by rw[List.length_map];exact k0))];exact k _ ⟨vs,_,_,_,_,_,_,_,_,_,_,_,_,_,_,rfl,rfl⟩
 ·rintro σ ⟨vs,u1,u2,u3,u4,u5,u6,u7,u8,u9,u10,u11,u12,u13,u14,e,rfl⟩
  cases vs with
  |nil=>walk_at "ds";exact q
  |cons v vs=>cases e
end
theorem zx2{us:List Value}(h:us.length=0):us = []:=List.eq_nil_of_length_eq_zero h
theorem zwo{us:List Value}(h:us.length=1):∃a0,us = [a0]:=by
 cases us with
 |nil=>cases h
 |cons a t=>
  obtain rfl:=zx2 (Nat.succ.inj h);exact⟨a,rfl⟩
theorem zwp{us:List Value}(h:us.length=2):∃a0 a1,us = [a0,a1]:=by
 cases us with
 |nil=>cases h
 |cons a t=>
  obtain⟨a1,rfl⟩:=zwo (Nat.succ.inj h);exact⟨a,a1,rfl⟩
theorem zwq{us:List Value}(h:us.length=3):∃a0 a1 a2,us = [a0,a1,a2]:=by
 cases us with
 |nil=>cases h
 |cons a t=>
  obtain⟨a1,a2,rfl⟩:=zwp (Nat.succ.inj h);exact⟨a,a1,a2,rfl⟩
theorem zwr{us:List Value}(h:us.length=4):∃a0 a1 a2 a3,us = [a0,a1,a2,a3]:=by
 cases us with
 |nil=>cases h
 |cons a t=>
  obtain⟨a1,a2,a3,rfl⟩:=zwq (Nat.succ.inj h);exact⟨a,a1,a2,a3,rfl⟩
theorem zws{us:List Value}(h:us.length=5):∃a0 a1 a2 a3 a4,us = [a0,a1,a2,a3,a4]:=by
 cases us with
 |nil=>cases h
 |cons a t=>
  obtain⟨a1,a2,a3,a4,rfl⟩:=zwr (Nat.succ.inj h);exact⟨a,a1,a2,a3,a4,rfl⟩
theorem zx3{us:List Value}(h:us.length=6):∃a0 a1 a2 a3 a4 a5,us = [a0,a1,a2,a3,a4,a5]:=by
 cases us with
 |nil=>cases h
 |cons a t=>
  obtain⟨a1,a2,a3,a4,a5,rfl⟩:=zws (Nat.succ.inj h);exact⟨a,a1,a2,a3,a4,a5,rfl⟩
theorem cal(P:Program)(w:World)(base:Heap){K:PySem.W.Frag}{h:Heap}{mg:Str->Option Value}{x:Str}{st:Stmt}{k:Nat}{ps:List Str}{sp:Sp}(X:K.In h)(G:h.Ns mainGlobals mg)(p:y9 K x st)(ok:∀(f:Addr) (fd:FuncData),Fun K x x st f fd->FnOk P w K mg base CX0 k f fd ps sp)(hb:∀us:List Value,us.length=ps.length->∀(kV doc pm:Value) (an:Option Addr) (cdv ct:Value),bindArgs (PySem.W.fnOf x x (qc st) (wf st) (zp st) .none kV doc pm an cdv ct) ⟨us,[]⟩=pure (ps.zip us)):zaw P w K mg base k x ps sp :=
 let ⟨f,fd,a,F⟩:=p;⟨f,fd,ok f fd F,F.binds λa b c d e g us hl=>hb us hl a b c d e g,F.kp,PySem.W.mg_of X G a⟩
theorem zfx{p:List Value->Prop}(h:∀a0,p [a0])(us:List Value)(hl:us.length=1):p us:=by
 obtain⟨a0,rfl⟩:=zwo hl;exact h a0
theorem zbn{p:List Value->Prop}(h:∀a0 a1,p [a0,a1])(us:List Value)(hl:us.length=2):p us:=by
 obtain⟨a0,a1,rfl⟩:=zwp hl;exact h a0 a1
theorem zl1{p:List Value->Prop}(h:∀a0 a1 a2,p [a0,a1,a2])(us:List Value)(hl:us.length=3):p us:=by
 obtain⟨a0,a1,a2,rfl⟩:=zwq hl;exact h a0 a1 a2
theorem zl2{p:List Value->Prop}(h:∀a0 a1 a2 a3,p [a0,a1,a2,a3])(us:List Value)(hl:us.length=4):p us:=by
 obtain⟨a0,a1,a2,a3,rfl⟩:=zwr hl;exact h a0 a1 a2 a3
theorem zx4{p:List Value->Prop}(h:∀a0 a1 a2 a3 a4,p [a0,a1,a2,a3,a4])(us:List Value)(hl:us.length=5):p us:=by
 obtain⟨a0,a1,a2,a3,a4,rfl⟩:=zws hl;exact h a0 a1 a2 a3 a4
theorem zx5{p:List Value->Prop}(h:∀a0 a1 a2 a3 a4 a5,p [a0,a1,a2,a3,a4,a5])(us:List Value)(hl:us.length=6):p us:=by
 obtain⟨a0,a1,a2,a3,a4,a5,rfl⟩:=zx3 hl;exact h a0 a1 a2 a3 a4 a5
theorem all_mk{l:PySem.W.OpenLaw}{w:World}{K:PySem.W.Frag}{h:Heap}{mg:Str->Option Value}{fa  : Addr}(X:K.In h)(G:h.Ns mainGlobals mg)(hfa:mg "law" = some (.ref fa))
  (p0:y9 K "is_whole" j2)
  (p1:y9 K "whole_in" j3)
  (p2:y9 K "wholes_in" ke)
  (p3:y9 K "growing" zbf)
  (p4:y9 K "gap_at" zcy)
  (p5:y9 K "silent_at" kg)
  (p6:y9 K "standing_good" wb)
  (p7:y9 K "lets" zi2)
  (p8:y9 K "heard" zfl)
  (p9:y9 K "heard_open" qi)
  (p10:y9 K "heard_trying" ww)
  (p11:y9 K "coins_asked" vk)
  (p12:y9 K "can_pay" zbg)
  (p13:y9 K "coins_by" j4)
  (p14:y9 K "first_of" j5)
  (p15:y9 K "knocked" zbh)
  (p16:y9 K "what_of" zbi)
  (p17:y9 K "tried" zfm)
  (p18:y9 K "asked" zfn)
  (p19:y9 K "stepped" zbj)
  (p20:y9 K "next_try" j6)
  (p21:y9 K "events_of" kh)
  (p22:y9 K "ends_of" zbk)
  (p23:y9 K "gone" zi4)
  (p24:y9 K "_law_cell_at" wx)
  (p25:y9 K "_law_next" ki)
  (p26:y9 K "_law_pen_of" vm)
  (p27:y9 K "_law_draw" kj)
  (p28:y9 K "_law_purse" qj)
  (p29:y9 K "_law_gate" kl)
  (p30:y9 K "_law_caller" vn)
  (p31:y9 K "_law_askings" wy)
  (p32:y9 K "_law_outage" vo)
  (p33:y9 K "_law_played" vr)
  (p34:y9 K "_law_silent" vt)
  (p35:y9 K "_law_stands" vv)
  (p36:y9 K "law" zog)
  (z_len:PySem.W.nsIn K mainGlobals "len" = some none)
  (z_range:PySem.W.nsIn K mainGlobals "range" = some none)
  (z_min:PySem.W.nsIn K mainGlobals "min" = some none)
  (z_max:PySem.W.nsIn K mainGlobals "max" = some none)
  (z_isinstance:PySem.W.nsIn K mainGlobals "isinstance" = some none)
  (z_any:PySem.W.nsIn K mainGlobals "any" = some none)
  (z_all:PySem.W.nsIn K mainGlobals "all" = some none)
  (z_zip:PySem.W.nsIn K mainGlobals "zip" = some none)
  (z_sorted:PySem.W.nsIn K mainGlobals "sorted" = some none)
  (z_tupleT:PySem.W.nsIn K mainGlobals "tuple" = some none)
  (z_intT:PySem.W.nsIn K mainGlobals "int" = some none)
  (z_listT:PySem.W.nsIn K mainGlobals "list" = some none)
  (z_strT:PySem.W.nsIn K mainGlobals "str" = some none)
  (z_boolT:PySem.W.nsIn K mainGlobals "bool" = some none)
  (z_setT:PySem.W.nsIn K mainGlobals "set" = some none)
  {t_SILENT:Tok} (y_SILENT:PySem.W.nsIn K mainGlobals "SILENT" = some (some (.str "silent" t_SILENT)))
  {t_LAST_UNTIL:Tok} (y_LAST_UNTIL:PySem.W.nsIn K mainGlobals "LAST_UNTIL" = some (some (.int 1001000 t_LAST_UNTIL)))
  {t_OPEN:Tok} (y_OPEN:PySem.W.nsIn K mainGlobals "OPEN" = some (some (.str "open" t_OPEN)))
  {t_SHUT:Tok} (y_SHUT:PySem.W.nsIn K mainGlobals "SHUT" = some (some (.str "shut" t_SHUT)))
  {t_TRYING:Tok} (y_TRYING:PySem.W.nsIn K mainGlobals "TRYING" = some (some (.str "trying" t_TRYING)))
  {t_HELD:Tok} (y_HELD:PySem.W.nsIn K mainGlobals "HELD" = some (some (.str "held" t_HELD)))
  {gt_FIRST_STANDING_0:Tok}{gt_FIRST_STANDING_1:Tok}{ga_FIRST_STANDING:Addr}{gn_FIRST_STANDING:Nat}{gs_FIRST_STANDING:Array (Option Value)} (yl_FIRST_STANDING:K.lookup ga_FIRST_STANDING=some ⟨.type "tuple",none,.seq #[.str "open" gt_FIRST_STANDING_0,.int 0 gt_FIRST_STANDING_1] gn_FIRST_STANDING,gs_FIRST_STANDING⟩)
  (y_FIRST_STANDING:PySem.W.nsIn K mainGlobals "FIRST_STANDING" = some (some (.ref ga_FIRST_STANDING)))
  {t_ASK:Tok} (y_ASK:PySem.W.nsIn K mainGlobals "ASK" = some (some (.str "a" t_ASK)))
  {t_KNOCK:Tok} (y_KNOCK:PySem.W.nsIn K mainGlobals "KNOCK" = some (some (.str "k" t_KNOCK)))
  {t_SERVED:Tok} (y_SERVED:PySem.W.nsIn K mainGlobals "SERVED" = some (some (.str "served" t_SERVED)))
  {t_LOST:Tok} (y_LOST:PySem.W.nsIn K mainGlobals "LOST" = some (some (.str "lost" t_LOST)))
  : ∃fd:FuncData,(∀(s:Shared) (v:Value),BindsTo s fd ⟨[v],[]⟩ [("_law_script",v)])/\∀base:Heap,K.In base->base.Ns mainGlobals mg->FnOk l.prog w K mg base CX0 8 fa fd ["_law_script"] (ya K zfq):=by
 obtain⟨f36,fd36,a36,F36⟩:=p36;have e:=hfa.symm.trans (PySem.W.mg_of X G a36)
 cases e;have B:Blt mg:=⟨PySem.W.mg_none_of X G z_len,PySem.W.mg_none_of X G z_range,PySem.W.mg_none_of X G z_min,PySem.W.mg_none_of X G z_max,PySem.W.mg_none_of X G z_isinstance,PySem.W.mg_none_of X G z_any,PySem.W.mg_none_of X G z_all,PySem.W.mg_none_of X G z_zip,PySem.W.mg_none_of X G z_sorted,PySem.W.mg_none_of X G z_tupleT,PySem.W.mg_none_of X G z_intT,PySem.W.mg_none_of X G z_listT,PySem.W.mg_none_of X G z_strT,PySem.W.mg_none_of X G z_boolT,PySem.W.mg_none_of X G z_setT⟩
 have G_SILENT:=PySem.W.mg_of X G y_SILENT;have G_LAST_UNTIL:=PySem.W.mg_of X G y_LAST_UNTIL;have G_OPEN:=PySem.W.mg_of X G y_OPEN;have G_SHUT:=PySem.W.mg_of X G y_SHUT;have G_TRYING:=PySem.W.mg_of X G y_TRYING;have G_HELD:=PySem.W.mg_of X G y_HELD;have G_FIRST_STANDING:=PySem.W.mg_of X G y_FIRST_STANDING;have N_FIRST_STANDING:∀H,Rep K H (.tuple [(.str "open"),(.int 0)]) (.ref ga_FIRST_STANDING):=λH=>(.tup (zvj (xs:=[.str "open",.int 0]) yl_FIRST_STANDING (Nat.le_of_ble_eq_true rfl) (.cons ⟨_,rfl⟩ (.cons ⟨_,rfl⟩ .nil))) (.cons .str (.cons .int .nil)))
 have G_ASK:=PySem.W.mg_of X G y_ASK;have G_KNOCK:=PySem.W.mg_of X G y_KNOCK;have G_SERVED:=PySem.W.mg_of X G y_SERVED;have G_LOST:=PySem.W.mg_of X G y_LOST;refine⟨fd36,λs v=>zlx F36 (λ_ _ _ _ _ _=>rfl),λbase _ _=>?_⟩;have C_is_whole:=cal l.prog w base X G p0 (λ_ _ F=>zhg B F  ) (zfx λ_ _ _ _ _ _ _=>rfl);have C_growing:=cal l.prog w base X G p3 (λ_ _ F=>zi5 B F  ) (zbn λ_ _ _ _ _ _ _ _=>rfl);have C_silent_at:=cal l.prog w base X G p5 (λ_ _ F=>zfr B F  ) (zbn λ_ _ _ _ _ _ _ _=>rfl);have C_lets:=cal l.prog w base X G p7 (λ_ _ F=>zqm B F G_SHUT G_TRYING ) (zl1 λ_ _ _ _ _ _ _ _ _=>rfl);have C_heard_open:=cal l.prog w base X G p9 (λ_ _ F=>zdm B F G_FIRST_STANDING N_FIRST_STANDING G_OPEN G_SHUT ) (zl2 λ_ _ _ _ _ _ _ _ _ _=>rfl);have C_heard_trying:=cal l.prog w base X G p10 (λ_ _ F=>zb3 B F G_FIRST_STANDING N_FIRST_STANDING G_TRYING G_SHUT ) (zl2 λ_ _ _ _ _ _ _ _ _ _=>rfl);have C_coins_asked:=cal l.prog w base X G p11 (λ_ _ F=>zc6 B F  ) (zl1 λ_ _ _ _ _ _ _ _ _=>rfl);have C_can_pay:=cal l.prog w base X G p12 (λ_ _ F=>zi7 B F  ) (zbn λ_ _ _ _ _ _ _ _=>rfl);have C_first_of:=cal l.prog w base X G p14 (λ_ _ F=>zg8 B F G_FIRST_STANDING N_FIRST_STANDING ) (zfx λ_ _ _ _ _ _ _=>rfl);have C_next_try:=cal l.prog w base X G p20 (λ_ _ F=>zhc B F  ) (zbn λ_ _ _ _ _ _ _ _=>rfl);have C_ends_of:=cal l.prog w base X G p22 (λ_ _ F=>zjb B F G_SERVED G_LOST ) (zbn λ_ _ _ _ _ _ _ _=>rfl);have C__law_cell_at:=cal l.prog w base X G p24 (λ_ _ F=>zb1 B F  ) (zbn λ_ _ _ _ _ _ _ _=>rfl);have C__law_next:=cal l.prog w base X G p25 (λ_ _ F=>zfo B F  ) (zfx λ_ _ _ _ _ _ _=>rfl);have C__law_pen_of:=cal l.prog w base X G p26 (λ_ _ F=>zc1 B F  ) (zfx λ_ _ _ _ _ _ _=>rfl);have C__law_silent:=cal l.prog w base X G p34 (λ_ _ F=>zde B F  ) (zbn λ_ _ _ _ _ _ _ _=>rfl);have C_whole_in:=cal l.prog w base X G p1 (λ_ _ F=>zhh B F  C_is_whole) (zl1 λ_ _ _ _ _ _ _ _ _=>rfl);have C_gap_at:=cal l.prog w base X G p4 (λ_ _ F=>zly B F  C_growing) (zbn λ_ _ _ _ _ _ _ _=>rfl);have C_heard:=cal l.prog w base X G p8 (λ_ _ F=>zok B F G_SHUT G_OPEN C_heard_open C_heard_trying) (zl2 λ_ _ _ _ _ _ _ _ _ _=>rfl)
 have C_coins_by:=cal l.prog w base X G p13 (λ_ _ F=>zg7 B F G_ASK C_coins_asked C_can_pay) (zl1 λ_ _ _ _ _ _ _ _ _=>rfl);have C__law_draw:=cal l.prog w base X G p27 (λ_ _ F=>zfp B F  C__law_next) (zbn λ_ _ _ _ _ _ _ _=>rfl);have C_wholes_in:=cal l.prog w base X G p2 (λ_ _ F=>zfw B F  C_whole_in) (zbn λ_ _ _ _ _ _ _ _=>rfl);have C_knocked:=cal l.prog w base X G p15 (λ_ _ F=>zi8 B F G_HELD G_SERVED G_SILENT C_lets C_heard) (zl2 λ_ _ _ _ _ _ _ _ _ _=>rfl);have C_what_of:=cal l.prog w base X G p16 (λ_ _ F=>zi9 B F  C_gap_at C_can_pay) (zx4 λ_ _ _ _ _ _ _ _ _ _ _=>rfl);have C_asked:=cal l.prog w base X G p18 (λ_ _ F=>zom B F G_ASK C_coins_by) (zbn λ_ _ _ _ _ _ _ _=>rfl);have C__law_purse:=cal l.prog w base X G p28 (λ_ _ F=>zdo B F  C__law_draw) (zfx λ_ _ _ _ _ _ _=>rfl);have C__law_gate:=cal l.prog w base X G p29 (λ_ _ F=>zfv B F  C__law_draw) (zfx λ_ _ _ _ _ _ _=>rfl);have C__law_askings:=cal l.prog w base X G p31 (λ_ _ F=>zb4 B F  C__law_draw) (zfx λ_ _ _ _ _ _ _=>rfl);have C__law_outage:=cal l.prog w base X G p32 (λ_ _ F=>zdb B F  C__law_draw) (zbn λ_ _ _ _ _ _ _ _=>rfl);have C_standing_good:=cal l.prog w base X G p6 (λ_ _ F=>zbm B F G_OPEN G_SHUT G_TRYING G_LAST_UNTIL C_wholes_in) (zbn λ_ _ _ _ _ _ _ _=>rfl);have C_tried:=cal l.prog w base X G p17 (λ_ _ F=>zol B F G_SERVED G_KNOCK C_coins_by C_knocked C_what_of) (zx5 λ_ _ _ _ _ _ _ _ _ _ _ _=>rfl);have C__law_caller:=cal l.prog w base X G p30 (λ_ _ F=>zda B F  C__law_draw C__law_purse C__law_gate) (zfx λ_ _ _ _ _ _ _=>rfl);have C_stepped:=cal l.prog w base X G p19 (λ_ _ F=>zja B F  C_tried C_asked) (zl2 λ_ _ _ _ _ _ _ _ _ _=>rfl);have C__law_played:=cal l.prog w base X G p33 (λ_ _ F=>zdc B F  C__law_draw C__law_caller C__law_askings C__law_outage) (zfx λ_ _ _ _ _ _ _=>rfl);have C__law_stands:=cal l.prog w base X G p35 (λ_ _ F=>zdf B F  C_standing_good) (zl2 λ_ _ _ _ _ _ _ _ _ _=>rfl);have C_events_of:=cal l.prog w base X G p21 (λ_ _ F=>zfu B F  C_silent_at C_first_of C_stepped C_next_try) (zl1 λ_ _ _ _ _ _ _ _ _=>rfl)
 have C_gone:=cal l.prog w base X G p23 (λ_ _ F=>zqr B F  C_events_of C_ends_of) (zl1 λ_ _ _ _ _ _ _ _ _=>rfl);exact zui B F36  C_first_of C_stepped C_gone C__law_cell_at C__law_pen_of C__law_played C__law_silent C__law_stands
theorem walk{l:PySem.W.OpenLaw}{q:Program}{loose:List Str}{XP:(Str->Option Value)->Heap->Prop}{YP:World->Heap->Prop}{d:DefRec}{K:Params->PySem.W.Frag}(hn:l.most=some 63)(hdf:d.params.defaults = [])
  (hY:∀(w:World) (h:Heap),YP w h->(K w.params).In h)
  (F:∀(w:World) (mg:Str->Option Value) (fa:Addr) (h:Heap),(K w.params).In h->h.Ns mainGlobals mg->mg d.name=some (.ref fa) ->
   ∃fd:FuncData,(∀(s:Shared) (u:Value),BindsTo s fd ⟨[u],[]⟩ [("_law_script",u)])/\∀base:Heap,(K w.params).In base->base.Ns mainGlobals mg->FnOk l.prog w (K w.params) mg base CX0 8 fa fd ["_law_script"] (ya (K w.params) zfq)) :
  PySem.W.WalkO q loose XP YP l.row.toRowW d [] (λf vs=>PySem.call f vs) :=
 L2.walk_of (n:=63) (k:=8) (x := "_law_script") (CX:=λ_=>CX0) (sp:=λw=>ya (K w.params) zfq) hn (by decide) hdf ⟨rfl,by decide,by decide,rfl⟩ hY F (λ_ _ a ns hl _ hS=>⟨[.scr ns],λr=>r=.val (.bool true),.cons ⟨a,rfl,hS⟩ .nil,⟨ns,rfl,hl,rfl⟩,λv H' r _ rp e=>by subst e;cases rp;rfl⟩) λ_ _ _ _ _ z=>z
end My
namespace PySem.W.Fast
def tw3940894268196338984:=()
def tw15137096181130371437:=()
def tw4524346674303311239:=()
def tw4568710002028140265:=()
def tw16062783688149586443:=()
def tw3249193134797906024:=()
def tw12259384771437975706:=()
def tw16397515348629723312:=()
def tw2510703525757934607:=()
def tw12765281977339189504:=()
def tw2093423093746257558:=()
def tw15255692854673819293:=()
def tw18403896211481584425:=()
def tw15746412430406962911:=()
def tw17265698561728836612:=()
def tw17311906232903355562:=()
def tw9738108160248118710:=()
def tw7493956038573163770:=()
def tw5215604574198971429:=()
def tw4398233813602666286:=()
def tw15865858362184517821:=()
def tw7607009599326054672:=()
def tw9497957332242836572:=()
def tw4569460558125365038:=()
def tw1222111788206894764:=()
def tw1641034170960034417:=()
def tw13357014660704113194:=()
def tw14887248733870443806:=()
def tw13049379642825236173:=()
def tw14395476570337017190:=()
def tw1786224172964952009:=()
def tw16334450523530062011:=()
def tw9927716253575264634:=()
def tw15808846636104546257:=()
def tw7039710360054139599:=()
def tw15409253476281741039:=()
def tw10279051204860770697:=()
def tw13364841503209237936:=()
def tw11955661319635132227:=()
def tw6542757399236486876:=()
def tw3670122861193777986:=()
def tw2245193957154069857:=()
def tw6056076475880413150:=()
def tw3917545275607235403:=()
def tw10894005556358147874:=()
def tw12994091675070152923:=()
def tw12349665247851942875:=()
def tw13577480756311691189:=()
def tw13512253861303873123:=()
def tw13714114405456866432:=()
def tw11244359691691223664:=()
def tw9895344157139929329:=()
def tw14469418607879628541:=()
def tw8839686498378351388:=()
def tw9573607931542164963:=()
def tw10978926344122135116:=()
def tw17678552320938823931:=()
def tw4409610057182520291:=()
def tw14568348838468898619:=()
def tw4443879856467553280:=()
def tw16158017945829286289:=()
def tw12437449644010611315:=()
def tw16093120287747627725:=()
def tw6832116112260013785:=()
def tw4328237494791777933:=()
def tw10580589535242127483:=()
def tw974758475486019702:=()
def tw12962406666712303276:=()
def tw14913051350196465345:=()
def tw18037137144369797409:=()
def tw2234493194955813031:=()
def tw15994450054978876263:=()
def tw12826160635964484801:=()
def tw10500879779164011262:=()
def tw349554679790093965:=()
def tw2827926556335419761:=()
def tw11596008959383100442:=()
def tw661683607381569874:=()
def tw10165265366101636104:=()
def tw11100171679272425860:=()
def tw5872251546672125736:=()
def tw6674763031624130022:=()
def tw6825466278098595498:=()
def tw2362037292513999635:=()
def tw2191901502477607439:=()
def tw10891163535924720894:=()
def tw15548187505864852271:=()
def tw12270538759164100984:=()
def tw17186166912212725014:=()
def tw14063730580097793952:=()
def tw7064659469005479894:=()
def tw16461204897089567416:=()
def tw3033240910746434181:=()
def tw8172648386936602704:=()
def tw5125293014235617285:=()
def tw14618855797151363762:=()
def tw6842917962682215126:=()
def tw9743541636980538562:=()
def tw8159532933533076559:=()
def tw8741065878023039596:=()
def tw14411379087394662995:=()
def tw15026351457308950642:=()
def tw1816443271459104472:=()
end PySem.W.Fast
open PySem PySem.W PyProof.Rows
local macro_rules|`(tactic| walk_at "fn")=>`(tactic|(refine' My.fn_at ?a ?l ?c ?k;(case a=>k_is);(case l=>k_is);(case c=>k_is);(case k=>k_is)))
set_option maxRecDepth 100000 in
set_option maxHeartbeats 0 in
theorem PySem.Challenge.cw_knockpurse_k70_whole_beat_by_beat_alike_holds : PySem.Challenge.rw_knockpurse_k70_whole_beat_by_beat_alike.Holds := by
 w_on;o_law;k_head;(case hw=>w_witness2)
 k_fill
 refine My.walk (l:=PySem.Challenge.rw_knockpurse_k70_whole_beat_by_beat_alike) rfl rfl (λw h Y=>PySem.W.kIn_of Y) ?F
 case F=>
  intro w mg fa h KX G hmg
  refine' My.all_mk KX G hmg ?p0 ?p1 ?p2 ?p3 ?p4 ?p5 ?p6 ?p7 ?p8 ?p9 ?p10 ?p11 ?p12 ?p13 ?p14 ?p15 ?p16 ?p17 ?p18 ?p19 ?p20 ?p21 ?p22 ?p23 ?p24 ?p25 ?p26 ?p27 ?p28 ?p29 ?p30 ?p31 ?p32 ?p33 ?p34 ?p35 ?p36 ?z_len ?z_range ?z_min ?z_max ?z_isinstance ?z_any ?z_all ?z_zip ?z_sorted ?z_tupleT ?z_intT ?z_listT ?z_strT ?z_boolT ?z_setT ?y_SILENT ?y_LAST_UNTIL ?y_OPEN ?y_SHUT ?y_TRYING ?y_HELD ?yl_FIRST_STANDING ?y_FIRST_STANDING ?y_ASK ?y_KNOCK ?y_SERVED ?y_LOST
  (case p0=>walk_at "fn")
  (case p1=>walk_at "fn")
  (case p2=>walk_at "fn")
  (case p3=>walk_at "fn")
  (case p4=>walk_at "fn")
  (case p5=>walk_at "fn")
  (case p6=>walk_at "fn")
  (case p7=>walk_at "fn")
  (case p8=>walk_at "fn")
  (case p9=>walk_at "fn")
  (case p10=>walk_at "fn")
  (case p11=>walk_at "fn")
  (case p12=>walk_at "fn")
  (case p13=>walk_at "fn")
  (case p14=>walk_at "fn")
  (case p15=>walk_at "fn")
  (case p16=>walk_at "fn")
  (case p17=>walk_at "fn")
  (case p18=>walk_at "fn")
  (case p19=>walk_at "fn")
  (case p20=>walk_at "fn")
  (case p21=>walk_at "fn")
  (case p22=>walk_at "fn")
  (case p23=>walk_at "fn")
  (case p24=>walk_at "fn")
  (case p25=>walk_at "fn")
  (case p26=>walk_at "fn")
  (case p27=>walk_at "fn")
  (case p28=>walk_at "fn")
  (case p29=>walk_at "fn")
  (case p30=>walk_at "fn")
  (case p31=>walk_at "fn")
  (case p32=>walk_at "fn")
  (case p33=>walk_at "fn")
  (case p34=>walk_at "fn")
  (case p35=>walk_at "fn")
  (case p36=>walk_at "fn")
  (case z_len=>k_is)
  (case z_range=>k_is)
  (case z_min=>k_is)
  (case z_max=>k_is)
  (case z_isinstance=>k_is)
  (case z_any=>k_is)
  (case z_all=>k_is)
  (case z_zip=>k_is)
  (case z_sorted=>k_is)
  (case z_tupleT=>k_is)
  (case z_intT=>k_is)
  (case z_listT=>k_is)
  (case z_strT=>k_is)
  (case z_boolT=>k_is)
  (case z_setT=>k_is)
  (case y_SILENT=>k_is)
  (case y_LAST_UNTIL=>k_is)
  (case y_OPEN=>k_is)
  (case y_SHUT=>k_is)
  (case y_TRYING=>k_is)
  (case y_HELD=>k_is)
  (case y_FIRST_STANDING=>k_is)
  (case yl_FIRST_STANDING=>k_is)
  (case y_ASK=>k_is)
  (case y_KNOCK=>k_is)
  (case y_SERVED=>k_is)
  (case y_LOST=>k_is)
